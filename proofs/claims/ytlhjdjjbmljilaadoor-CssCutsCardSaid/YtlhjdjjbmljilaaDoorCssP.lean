/- PURE: layer 17 on lists of bytes: a style's pieces, its declarations, which are safe, what is clean. No statement is proved here. Own work of the verifier. -/
import Derived.Test.YtlhjdjjbmljilaaDoorSpace
import Derived.Test.YtlhjdjjbmljilaaDoorPlainW
import Derived.Test.YtlhjdjjbmljilaaDoorPctP
namespace Go.Proofs.YtlhjdjjbmljilaaDoor
set_option linter.unusedVariables false
set_option linter.unusedSimpArgs false

def trimV (l : List UInt8) : List UInt8 := rightW (leftW l)
theorem leftW_idem (l : List UInt8) : leftW (leftW l) = leftW l := by
  induction l with
  | nil => rfl
  | cons c t ih =>
    rw [leftW_cons]
    cases h : spaceB c with
    | true => simpa using ih
    | false =>
      simp only [Bool.false_eq_true, if_false]
      rw [leftW_cons, h]; rfl
theorem rightW_idem (l : List UInt8) : rightW (rightW l) = rightW l := by
  have := leftW_idem l.reverse
  unfold leftW at this
  unfold rightW
  rw [List.reverse_reverse, this]
theorem trimV_idem (l : List UInt8) : trimV (trimV l) = trimV l := by
  unfold trimV
  rw [lr, leftW_idem, rightW_idem]
theorem trimV_cons {c : UInt8} (h : spaceB c = true) (l : List UInt8) : trimV (c :: l) = trimV l := by
  unfold trimV
  rw [leftW_cons, h]; rfl
theorem trimV_snoc {c : UInt8} (h : spaceB c = true) (l : List UInt8) : trimV (l ++ [c]) = trimV l := by
  unfold trimV
  rw [← lr, ← lr, rightW_snoc, h]; rfl
theorem trimV_nil : trimV [] = [] := rfl
theorem leftW_len (l : List UInt8) : (leftW l).length ≤ l.length := (List.dropWhile_sublist _).length_le
theorem rightW_len (l : List UInt8) : (rightW l).length ≤ l.length := by
  unfold rightW
  rw [List.length_reverse]
  exact Nat.le_trans (List.dropWhile_sublist _).length_le (by simp)
theorem trimV_len (l : List UInt8) : (trimV l).length ≤ l.length := Nat.le_trans (rightW_len _) (leftW_len _)

/-! ### pieces -/
/-- what is open: how many brackets, which quote (0: none), whether the byte behind belongs to the one ahead -/
abbrev CSt := Nat × UInt8 × Bool
def st0 : CSt := (0, 0, false)
def cstep (st : CSt) (c : UInt8) : CSt × Bool :=
  if st.2.2 = true then ((st.1, st.2.1, false), false)
  else if st.2.1 ≠ 0 then (if c = st.2.1 then ((st.1, 0, false), false) else if c = 92 then ((st.1, st.2.1, true), false) else (st, false))
  else if c = 34 ∨ c = 39 then ((st.1, c, false), false)
  else if c = 40 then ((st.1 + 1, 0, false), false)
  else if c = 41 then ((st.1 - 1, 0, false), false)
  else (st, decide (c = 59 ∧ st.1 = 0))
def pcs (st : CSt) (cur : List UInt8) : List UInt8 → List (List UInt8)
  | [] => [cur]
  | c :: r => if (cstep st c).2 = true then cur :: pcs (cstep st c).1 [] r else pcs (cstep st c).1 (cur ++ [c]) r
theorem pcs_end {st : CSt} {c : UInt8} (h : (cstep st c).2 = true) (cur r : List UInt8) : pcs st cur (c :: r) = cur :: pcs (cstep st c).1 [] r := by
  rw [pcs, if_pos h]
theorem pcs_go {st : CSt} {c : UInt8} (h : (cstep st c).2 = false) (cur r : List UInt8) : pcs st cur (c :: r) = pcs (cstep st c).1 (cur ++ [c]) r := by
  rw [pcs, if_neg (by rw [h]; decide)]
def pieceW (l : List (List UInt8)) : Nat := (l.map fun p => p.length + 1).sum
theorem pcs_weight (l : List UInt8) : ∀ (st : CSt) (cur : List UInt8), pieceW (pcs st cur l) = cur.length + l.length + 1 := by
  induction l with
  | nil => intro st cur; simp [pcs, pieceW]
  | cons c r ih =>
    intro st cur
    cases h : (cstep st c).2 with
    | true =>
      rw [pcs_end h]
      unfold pieceW at ih ⊢
      rw [List.map_cons, List.sum_cons, ih]
      simp; omega
    | false =>
      rw [pcs_go h, ih]
      simp; omega

/-! ### declarations -/
abbrev DeclL := List UInt8 × List UInt8
def declL (p : List UInt8) : Option DeclL :=
  if lowL (trimV (beforeC 58 p)) = [] ∨ trimV (afterC 58 p) = [] then none else some (lowL (trimV (beforeC 58 p)), trimV (afterC 58 p))
def cutD (l : List UInt8) : List DeclL := (pcs st0 [] l).filterMap declL
theorem declL_some {p : List UInt8} {d : DeclL} (h : declL p = some d) : d.1 = lowL (trimV (beforeC 58 p)) ∧ d.2 = trimV (afterC 58 p) ∧ d.1 ≠ [] ∧ d.2 ≠ [] := by
  unfold declL at h
  split at h
  · cases h
  · rename_i hn
    injection h with h
    subst h
    exact ⟨rfl, rfl, fun e => hn (.inl e), fun e => hn (.inr e)⟩
theorem before_after (l : List UInt8) : (beforeC 58 l).length + (afterC 58 l).length ≤ l.length := by
  unfold beforeC afterC
  have h := congrArg List.length (List.takeWhile_append_dropWhile (p := fun x => x != 58) (l := l))
  rw [List.length_append] at h
  rw [List.length_drop]; omega
theorem declL_len {p : List UInt8} {d : DeclL} (h : declL p = some d) : d.1.length + d.2.length ≤ p.length := by
  obtain ⟨e1, e2, _⟩ := declL_some h
  rw [e1, e2, lowL_length]
  have h1 := trimV_len (beforeC 58 p)
  have h2 := trimV_len (afterC 58 p)
  have h3 := before_after p
  omega
def declW (D : List DeclL) : Nat := (D.map fun d => d.1.length + d.2.length + 1).sum
theorem decl_weight (P : List (List UInt8)) : declW (P.filterMap declL) ≤ pieceW P := by
  induction P with
  | nil => exact Nat.le_refl _
  | cons p r ih =>
    rw [List.filterMap_cons]
    unfold declW pieceW at *
    cases h : declL p with
    | none => simp only [List.map_cons, List.sum_cons]; omega
    | some d =>
      have := declL_len h
      simp only [List.map_cons, List.sum_cons]; omega
theorem cutD_weight (l : List UInt8) : declW (cutD l) ≤ l.length + 1 := by
  have := decl_weight (pcs st0 [] l)
  rw [pcs_weight] at this
  unfold cutD; simpa using this
theorem declW_mem {D : List DeclL} {d : DeclL} (h : d ∈ D) : d.1.length + d.2.length + 1 ≤ declW D := by
  unfold declW
  induction D with
  | nil => cases h
  | cons a r ih =>
    rw [List.map_cons, List.sum_cons]
    rcases List.mem_cons.1 h with rfl | h
    · omega
    · have := ih h; omega
theorem declW_len (D : List DeclL) : D.length ≤ declW D := by
  unfold declW
  induction D with
  | nil => exact Nat.le_refl _
  | cons a r ih => rw [List.map_cons, List.sum_cons, List.length_cons]; omega

/-! ### what is let through -/
def cssNames : List (List UInt8) := [
  [98, 97, 99, 107, 103, 114, 111, 117, 110, 100, 45, 99, 111, 108, 111, 114],
  [98, 111, 114, 100, 101, 114],
  [98, 111, 114, 100, 101, 114, 45, 98, 111, 116, 116, 111, 109],
  [98, 111, 114, 100, 101, 114, 45, 99, 111, 108, 108, 97, 112, 115, 101],
  [98, 111, 114, 100, 101, 114, 45, 99, 111, 108, 111, 114],
  [98, 111, 114, 100, 101, 114, 45, 108, 101, 102, 116],
  [98, 111, 114, 100, 101, 114, 45, 114, 105, 103, 104, 116],
  [98, 111, 114, 100, 101, 114, 45, 115, 112, 97, 99, 105, 110, 103],
  [98, 111, 114, 100, 101, 114, 45, 115, 116, 121, 108, 101],
  [98, 111, 114, 100, 101, 114, 45, 116, 111, 112],
  [98, 111, 114, 100, 101, 114, 45, 119, 105, 100, 116, 104],
  [99, 111, 108, 111, 114],
  [100, 105, 114, 101, 99, 116, 105, 111, 110],
  [102, 111, 110, 116, 45, 115, 105, 122, 101],
  [102, 111, 110, 116, 45, 115, 116, 121, 108, 101],
  [102, 111, 110, 116, 45, 119, 101, 105, 103, 104, 116],
  [104, 101, 105, 103, 104, 116],
  [108, 101, 116, 116, 101, 114, 45, 115, 112, 97, 99, 105, 110, 103],
  [108, 105, 110, 101, 45, 104, 101, 105, 103, 104, 116],
  [108, 105, 115, 116, 45, 115, 116, 121, 108, 101, 45, 116, 121, 112, 101],
  [109, 97, 114, 103, 105, 110],
  [109, 97, 114, 103, 105, 110, 45, 98, 111, 116, 116, 111, 109],
  [109, 97, 114, 103, 105, 110, 45, 108, 101, 102, 116],
  [109, 97, 114, 103, 105, 110, 45, 114, 105, 103, 104, 116],
  [109, 97, 114, 103, 105, 110, 45, 116, 111, 112],
  [109, 97, 120, 45, 119, 105, 100, 116, 104],
  [112, 97, 100, 100, 105, 110, 103],
  [112, 97, 100, 100, 105, 110, 103, 45, 98, 111, 116, 116, 111, 109],
  [112, 97, 100, 100, 105, 110, 103, 45, 108, 101, 102, 116],
  [112, 97, 100, 100, 105, 110, 103, 45, 114, 105, 103, 104, 116],
  [112, 97, 100, 100, 105, 110, 103, 45, 116, 111, 112],
  [116, 101, 120, 116, 45, 97, 108, 105, 103, 110],
  [116, 101, 120, 116, 45, 100, 101, 99, 111, 114, 97, 116, 105, 111, 110],
  [116, 101, 120, 116, 45, 105, 110, 100, 101, 110, 116],
  [116, 101, 120, 116, 45, 116, 114, 97, 110, 115, 102, 111, 114, 109],
  [118, 101, 114, 116, 105, 99, 97, 108, 45, 97, 108, 105, 103, 110],
  [119, 104, 105, 116, 101, 45, 115, 112, 97, 99, 101],
  [119, 105, 100, 116, 104]]
def cssMarks : List UInt8 := [32, 35, 46, 37, 44, 45, 43, 33]
def safeD (d : DeclL) : Bool := cssNames.contains d.1 && (!d.2.isEmpty && (decide (d.2.length ≤ 100) && d.2.all (markB cssMarks)))
/-- the last one of each name, of those that are safe -/
def lastD : List DeclL → List DeclL
  | [] => []
  | d :: r => if safeD d = true ∧ r.any (fun e => e.1 == d.1 && safeD e) = false then d :: lastD r else lastD r
def showD (d : DeclL) : List UInt8 := d.1 ++ 58 :: 32 :: d.2
def joinD : List DeclL → List UInt8
  | [] => []
  | [d] => showD d
  | d :: e :: r => showD d ++ 59 :: 32 :: joinD (e :: r)
def cleanD (l : List UInt8) : List UInt8 := joinD (lastD (cutD l))

theorem lastD_sub (D : List DeclL) : (lastD D).Sublist D := by
  induction D with
  | nil => exact List.Sublist.refl _
  | cons d r ih =>
    rw [lastD]
    split
    · exact ih.cons_cons d
    · exact ih.cons d
theorem lastD_safe (D : List DeclL) : ∀ d ∈ lastD D, safeD d = true := by
  induction D with
  | nil => intro d h; cases h
  | cons a r ih =>
    intro d h
    rw [lastD] at h
    split at h
    · rename_i ha
      rcases List.mem_cons.1 h with rfl | h
      · exact ha.1
      · exact ih d h
    · exact ih d h
theorem lastD_names (D : List DeclL) (n : List UInt8) : (∃ e ∈ lastD D, e.1 = n) ↔ ∃ e ∈ D, e.1 = n ∧ safeD e = true := by
  induction D with
  | nil => constructor <;> (rintro ⟨e, h, _⟩; cases h)
  | cons a r ih =>
    rw [lastD]
    by_cases ha : safeD a = true ∧ r.any (fun e => e.1 == a.1 && safeD e) = false
    · rw [if_pos ha]
      constructor
      · rintro ⟨e, h, he⟩
        rcases List.mem_cons.1 h with rfl | h
        · exact ⟨e, List.mem_cons_self .., he, ha.1⟩
        · obtain ⟨x, hx, hn, hs⟩ := ih.1 ⟨e, h, he⟩
          exact ⟨x, List.mem_cons_of_mem _ hx, hn, hs⟩
      · rintro ⟨e, h, he, hs⟩
        rcases List.mem_cons.1 h with rfl | h
        · exact ⟨e, List.mem_cons_self .., he⟩
        · obtain ⟨x, hx, hn⟩ := ih.2 ⟨e, h, he, hs⟩
          exact ⟨x, List.mem_cons_of_mem _ hx, hn⟩
    · rw [if_neg ha]
      constructor
      · rintro ⟨e, h, he⟩
        obtain ⟨x, hx, hn, hs⟩ := ih.1 ⟨e, h, he⟩
        exact ⟨x, List.mem_cons_of_mem _ hx, hn, hs⟩
      · rintro ⟨e, h, he, hs⟩
        rcases List.mem_cons.1 h with rfl | h
        · have h2 : r.any (fun x => x.1 == e.1 && safeD x) = true := by
            cases hh : r.any (fun x => x.1 == e.1 && safeD x) with
            | true => rfl
            | false => exact absurd ⟨hs, hh⟩ ha
          obtain ⟨x, hx, hp⟩ := List.any_eq_true.1 h2
          rw [Bool.and_eq_true, beq_iff_eq] at hp
          exact ih.2 ⟨x, hx, hp.1.trans he, hp.2⟩
        · exact ih.2 ⟨e, h, he, hs⟩
theorem lastD_apart (D : List DeclL) : (lastD D).Pairwise (fun a b => a.1 ≠ b.1) := by
  induction D with
  | nil => exact List.Pairwise.nil
  | cons a r ih =>
    rw [lastD]
    split
    · rename_i ha
      refine List.Pairwise.cons (fun b hb he => ?_) ih
      obtain ⟨x, hx, hn, hs⟩ := (lastD_names r b.1).1 ⟨b, hb, rfl⟩
      have h2 := List.any_eq_false.1 ha.2 x hx
      rw [hs, Bool.and_true, beq_iff_eq] at h2
      exact h2 (hn.trans he.symm)
    · exact ih
theorem lastD_same (L : List DeclL) (hs : ∀ d ∈ L, safeD d = true) (hp : L.Pairwise (fun a b => a.1 ≠ b.1)) : lastD L = L := by
  induction L with
  | nil => rfl
  | cons a r ih =>
    rw [List.pairwise_cons] at hp
    have h2 : r.any (fun e => e.1 == a.1 && safeD e) = false := by
      rw [List.any_eq_false]
      intro x hx
      rw [Bool.and_eq_true, beq_iff_eq]
      intro h
      exact hp.1 x hx h.1.symm
    rw [lastD, if_pos ⟨hs a (List.mem_cons_self ..), h2⟩, ih (fun d h => hs d (List.mem_cons_of_mem _ h)) hp.2]

/-! ### calm bytes -/
def calmB (c : UInt8) : Bool := !(c == 34 || c == 39 || c == 40 || c == 59)
theorem calm_not (c : UInt8) (h : calmB c = true) : c ≠ 34 ∧ c ≠ 39 ∧ c ≠ 40 ∧ c ≠ 59 :=
  u8_all (p := fun c => calmB c = true → c ≠ 34 ∧ c ≠ 39 ∧ c ≠ 40 ∧ c ≠ 59) (by decide +kernel) c h
theorem calm_of (c : UInt8) (h1 : c ≠ 34) (h2 : c ≠ 39) (h3 : c ≠ 40) (h4 : c ≠ 59) : calmB c = true := by
  unfold calmB
  rw [beq_eq_false_iff_ne.2 h1, beq_eq_false_iff_ne.2 h2, beq_eq_false_iff_ne.2 h3, beq_eq_false_iff_ne.2 h4]; rfl
theorem step_calm (c : UInt8) (h : calmB c = true) : cstep st0 c = (st0, false) :=
  u8_all (p := fun c => calmB c = true → cstep st0 c = (st0, false)) (by decide +kernel) c h
theorem step_semi : cstep st0 59 = (st0, true) := by decide
theorem pcs_calm (p : List UInt8) (h : ∀ c ∈ p, calmB c = true) (cur r : List UInt8) : pcs st0 cur (p ++ r) = pcs st0 (cur ++ p) r := by
  induction p generalizing cur with
  | nil => simp
  | cons c t ih =>
    have hc := step_calm c (h c (List.mem_cons_self ..))
    rw [List.cons_append, pcs_go (by rw [hc]), hc, ih (fun x hx => h x (List.mem_cons_of_mem _ hx))]
    simp
theorem pcs_semi (cur r : List UInt8) : pcs st0 cur (59 :: r) = cur :: pcs st0 [] r := by
  rw [pcs_end (by rw [step_semi]), step_semi]
theorem pcs_join (s : List UInt8) (h : ∀ c ∈ s, ¬ (c = 34 ∨ c = 39 ∨ c = 40)) (t cur : List UInt8) : pcs st0 cur (s ++ 59 :: t) = pcs st0 cur s ++ pcs st0 [] t := by
  induction s generalizing cur with
  | nil => rw [List.nil_append, pcs_semi]; rfl
  | cons c r ih =>
    have hc := h c (List.mem_cons_self ..)
    have hr := fun cur => ih (fun x hx => h x (List.mem_cons_of_mem _ hx)) cur
    by_cases h59 : c = 59
    · subst h59
      rw [List.cons_append, pcs_semi, pcs_semi, hr]; rfl
    · have hs := step_calm c (calm_of c (fun e => hc (.inl e)) (fun e => hc (.inr (.inl e))) (fun e => hc (.inr (.inr e))) h59)
      rw [List.cons_append, pcs_go (by rw [hs]), hs, hr, pcs_go (by rw [hs]), hs]
theorem cut_join (s t : List UInt8) (h : ∀ c ∈ s, ¬ (c = 34 ∨ c = 39 ∨ c = 40)) : cutD (s ++ 59 :: t) = cutD s ++ cutD t := by
  unfold cutD
  rw [pcs_join s h t [], List.filterMap_append]
/-- names and values that may be -/
theorem cssName_good : cssNames.all (fun n => !n.isEmpty && n.all (fun c => calmB c && c != 58 && !spaceB c && lowC c == c)) = true := by decide +kernel
theorem mark_calm (c : UInt8) (h : markB cssMarks c = true) : calmB c = true ∧ (spaceB c = true → c = 32) :=
  u8_all (p := fun c => markB cssMarks c = true → (calmB c = true ∧ (spaceB c = true → c = 32))) (by decide +kernel) c h
theorem name_facts {n : List UInt8} (h : cssNames.contains n = true) : n ≠ [] ∧ (∀ c ∈ n, calmB c = true ∧ c ≠ 58 ∧ spaceB c = false) ∧ lowL n = n ∧ trimV n = n := by
  have hm : n ∈ cssNames := by simpa using h
  have h1 := List.all_eq_true.1 cssName_good n hm
  rw [Bool.and_eq_true] at h1
  have h2 := List.all_eq_true.1 h1.2
  have h3 : ∀ c ∈ n, calmB c = true ∧ c ≠ 58 ∧ spaceB c = false ∧ lowC c = c := by
    intro c hc
    have := h2 c hc
    simp at this
    exact ⟨this.1.1.1, this.1.1.2, this.1.2, this.2⟩
  refine ⟨fun e => by rw [e] at h1; exact absurd h1.1 (by decide), fun c hc => ⟨(h3 c hc).1, (h3 c hc).2.1, (h3 c hc).2.2.1⟩, ?_, ?_⟩
  · unfold lowL
    conv => rhs; rw [← List.map_id n]
    exact List.map_congr_left fun c hc => (h3 c hc).2.2.2
  · have e1 : ∀ l : List UInt8, (∀ c ∈ l, spaceB c = false) → leftW l = l := by
      intro l hl
      cases l with
      | nil => rfl
      | cons a r => rw [leftW_cons, hl a (List.mem_cons_self ..)]; rfl
    have hsp : ∀ c ∈ n, spaceB c = false := fun c hc => (h3 c hc).2.2.1
    unfold trimV
    rw [e1 n hsp]
    unfold rightW
    have := e1 n.reverse (fun c hc => hsp c (List.mem_reverse.1 hc))
    unfold leftW at this
    rw [this, List.reverse_reverse]
theorem safe_facts {d : DeclL} (h : safeD d = true) : cssNames.contains d.1 = true ∧ d.2 ≠ [] ∧ d.2.length ≤ 100 ∧ ∀ c ∈ d.2, markB cssMarks c = true := by
  unfold safeD at h
  rw [Bool.and_eq_true, Bool.and_eq_true, Bool.and_eq_true, decide_eq_true_eq, List.all_eq_true] at h
  exact ⟨h.1, fun e => by rw [e] at h; exact absurd h.2.1 (by decide), h.2.2.1, h.2.2.2⟩
theorem split58 {m b : List UInt8} (h : ∀ c ∈ m, c ≠ 58) : beforeC 58 (m ++ 58 :: b) = m ∧ afterC 58 (m ++ 58 :: b) = b := by
  unfold beforeC afterC
  have : (m ++ 58 :: b).takeWhile (fun x => x != 58) = m ∧ (m ++ 58 :: b).dropWhile (fun x => x != 58) = 58 :: b := by
    induction m with
    | nil => simp
    | cons a r ih =>
      have ha := h a (List.mem_cons_self ..)
      have := ih (fun x hx => h x (List.mem_cons_of_mem _ hx))
      simp [ha, this.1, this.2]
  rw [this.1, this.2]; exact ⟨rfl, rfl⟩
/-- a declaration, with white ahead, between and behind, is read -/
theorem declL_of {n v a b c : List UInt8} (hn : cssNames.contains n = true) (hv : trimV v = v) (hv0 : v ≠ []) (ha : trimV (a ++ n ++ b) = n) (hb : ∀ x ∈ a ++ b, x ≠ 58) (hc : trimV c = v) : declL (a ++ n ++ b ++ 58 :: c) = some (n, v) := by
  obtain ⟨h1, h2, h3, h4⟩ := name_facts hn
  have h58 : ∀ x ∈ a ++ n ++ b, x ≠ 58 := by
    intro x hx
    rcases List.mem_append.1 hx with hx | hx
    · rcases List.mem_append.1 hx with hx | hx
      · exact hb x (List.mem_append_left _ hx)
      · exact (h2 x hx).2.1
    · exact hb x (List.mem_append_right _ hx)
  obtain ⟨e1, e2⟩ := split58 (b := c) h58
  unfold declL
  rw [e1, e2, ha, hc, h3, if_neg (fun e => e.elim h1 hv0)]
def cssGood (L : List DeclL) : Prop := ∀ d ∈ L, safeD d = true ∧ trimV d.2 = d.2
theorem show_calm {d : DeclL} (h : safeD d = true) : ∀ c ∈ showD d, calmB c = true := by
  obtain ⟨h1, h2, h3, h4⟩ := safe_facts h
  intro c hc
  unfold showD at hc
  rcases List.mem_append.1 hc with hc | hc
  · exact ((name_facts h1).2.1 c hc).1
  · rcases List.mem_cons.1 hc with rfl | hc
    · decide
    · rcases List.mem_cons.1 hc with rfl | hc
      · decide
      · exact (mark_calm c (h4 c hc)).1
theorem decl_show {d : DeclL} (h : safeD d = true) (ht : trimV d.2 = d.2) : declL (showD d) = some d ∧ declL ([32] ++ showD d) = some d := by
  obtain ⟨h1, h2, h3, h4⟩ := safe_facts h
  have hn := (name_facts h1).2.2.2
  have ht2 : trimV (32 :: d.2) = d.2 := by rw [trimV_cons (by decide), ht]
  constructor
  · have := declL_of (a := []) (b := []) (c := 32 :: d.2) h1 ht h2 (by simpa using hn) (by simp) ht2
    simpa [showD] using this
  · have := declL_of (a := [32]) (b := []) (c := 32 :: d.2) h1 ht h2 (by simp only [List.append_nil]; show trimV (32 :: d.1) = d.1; rw [trimV_cons (by decide), hn]) (by simp) ht2
    simpa [showD] using this
theorem cut_joinD (L : List DeclL) (h : cssGood L) : ∀ cur, cur = [] ∨ cur = [32] → (pcs st0 cur (joinD L)).filterMap declL = L := by
  induction L with
  | nil =>
    intro cur hc
    rcases hc with rfl | rfl
    · decide
    · decide
  | cons d r ih =>
    intro cur hc
    obtain ⟨hs, ht⟩ := h d (List.mem_cons_self ..)
    obtain ⟨d1, d2⟩ := decl_show hs ht
    have hd : declL (cur ++ showD d) = some d := by
      rcases hc with rfl | rfl
      · exact d1
      · exact d2
    cases r with
    | nil =>
      show (pcs st0 cur (showD d)).filterMap declL = _
      have := pcs_calm (showD d) (show_calm hs) cur []
      rw [List.append_nil] at this
      rw [this, pcs, List.filterMap_cons, hd]; rfl
    | cons e r =>
      show (pcs st0 cur (showD d ++ 59 :: 32 :: joinD (e :: r))).filterMap declL = _
      rw [pcs_calm (showD d) (show_calm hs), pcs_semi, List.filterMap_cons, hd]
      have h32 := step_calm 32 (by decide)
      rw [pcs_go (by rw [h32]), h32]
      simp only
      rw [List.nil_append, ih (fun x hx => h x (List.mem_cons_of_mem _ hx)) [32] (.inr rfl)]
theorem cutD_trim (l : List UInt8) : ∀ d ∈ cutD l, trimV d.2 = d.2 := by
  intro d hd
  obtain ⟨p, _, hp⟩ := List.mem_filterMap.1 hd
  rw [(declL_some hp).2.1, trimV_idem]
theorem last_good (l : List UInt8) : cssGood (lastD (cutD l)) := fun d hd => ⟨lastD_safe _ d hd, cutD_trim l d ((lastD_sub _).subset hd)⟩
theorem cut_clean (l : List UInt8) : cutD (cleanD l) = lastD (cutD l) := cut_joinD _ (last_good l) [] (.inl rfl)
theorem clean_cleanD (l : List UInt8) : cleanD (cleanD l) = cleanD l := by
  unfold cleanD
  rw [show cutD (joinD (lastD (cutD l))) = lastD (cutD l) from cut_clean l, lastD_same _ (lastD_safe _) (lastD_apart _)]
/-- the bytes of what is clean -/
def quietB (c : UInt8) : Bool := markB cssMarks c || c == 58 || c == 59
theorem quiet_name : cssNames.all (fun n => n.all quietB) = true := by decide +kernel
theorem joinD_quiet (L : List DeclL) (h : ∀ d ∈ L, safeD d = true) : ∀ c ∈ joinD L, quietB c = true := by
  have hshow : ∀ d : DeclL, safeD d = true → ∀ c ∈ showD d, quietB c = true := by
    intro d hd c hc
    obtain ⟨h1, _, _, h4⟩ := safe_facts hd
    unfold showD at hc
    rcases List.mem_append.1 hc with hc | hc
    · exact List.all_eq_true.1 (List.all_eq_true.1 quiet_name d.1 (by simpa using h1)) c hc
    · rcases List.mem_cons.1 hc with rfl | hc
      · decide
      · rcases List.mem_cons.1 hc with rfl | hc
        · decide
        · unfold quietB; rw [h4 c hc]; rfl
  induction L with
  | nil => intro c hc; cases hc
  | cons d r ih =>
    cases r with
    | nil => exact hshow d (h d (List.mem_cons_self ..))
    | cons e r =>
      intro c hc
      have hc' : c ∈ showD d ++ 59 :: 32 :: joinD (e :: r) := hc
      rcases List.mem_append.1 hc' with hc | hc
      · exact hshow d (h d (List.mem_cons_self ..)) c hc
      · rcases List.mem_cons.1 hc with rfl | hc
        · decide
        · rcases List.mem_cons.1 hc with rfl | hc
          · decide
          · exact ih (fun x hx => h x (List.mem_cons_of_mem _ hx)) c hc
theorem clean_quiet (l : List UInt8) : ∀ c ∈ cleanD l, quietB c = true := joinD_quiet _ (lastD_safe _)
theorem joinD_len (L : List DeclL) : (joinD L).length ≤ 4 * declW L := by
  unfold declW
  induction L with
  | nil => exact Nat.le_refl _
  | cons d r ih =>
    have hs : (showD d).length = d.1.length + d.2.length + 2 := by unfold showD; simp; omega
    cases r with
    | nil =>
      show (showD d).length ≤ _
      rw [hs]; simp; omega
    | cons e r =>
      show (showD d ++ 59 :: 32 :: joinD (e :: r)).length ≤ _
      rw [List.length_append, hs, List.length_cons, List.length_cons, List.map_cons, List.sum_cons]
      omega
theorem declW_sub {A B : List DeclL} (h : A.Sublist B) : declW A ≤ declW B := by
  unfold declW
  induction h with
  | slnil => exact Nat.le_refl _
  | cons a _ ih => rw [List.map_cons, List.sum_cons]; omega
  | cons_cons a _ ih => rw [List.map_cons, List.sum_cons, List.map_cons, List.sum_cons]; omega
theorem clean_len (l : List UInt8) : (cleanD l).length ≤ 4 * (l.length + 1) := by
  have h1 := joinD_len (lastD (cutD l))
  have h2 := declW_sub (lastD_sub (cutD l))
  have h3 := cutD_weight l
  unfold cleanD; omega
end Go.Proofs.YtlhjdjjbmljilaaDoor
