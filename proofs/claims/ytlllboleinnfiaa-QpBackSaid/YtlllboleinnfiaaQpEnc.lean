/- What is encoded is decoded; how long what is encoded is; its lines: facts on lists of bytes. No statement is proved here. -/
import Derived.Test.YtlllboleinnfiaaQpDec
namespace Go.Proofs.Ytlllboleinnfiaa
set_option linter.unusedVariables false
set_option linter.unusedSimpArgs false

/-- a byte that stands for itself and is no blank -/
def visB (c : UInt8) : Bool := 33 ≤ c && c ≤ 126 && c != 61
theorem vis_facts (c : UInt8) (h : visB c = true) : c ≠ 61 ∧ isW c = false ∧ c ≠ 10 ∧ c ≠ 13 ∧ c ≠ 32 := by
  have := u8_all (p := fun c => visB c = true → c ≠ 61 ∧ isW c = false ∧ c ≠ 10 ∧ c ≠ 13 ∧ c ≠ 32) (by decide +kernel) c
  exact this h

/-- the text e stands for the bytes s -/
inductive Enc : List UInt8 → List UInt8 → Prop
  | nil : Enc [] []
  | vis {c : UInt8} {e s : List UInt8} (h : visB c = true) (r : Enc e s) : Enc (c :: e) (c :: s)
  | blank {e s : List UInt8} (h : e ≠ []) (r : Enc e s) : Enc (32 :: e) (32 :: s)
  | code {c : UInt8} {e s : List UInt8} (r : Enc e s) : Enc (61 :: hexHi c :: hexLo c :: e) (c :: s)
  | soft {e s : List UInt8} (r : Enc e s) : Enc (61 :: 10 :: e) s

/-- what stands behind the white ahead is no line's end -/
def KeptE (e : List UInt8) : Prop := e.drop (whiteN e) ≠ [] ∧ eolN (e.drop (whiteN e)) = 0
theorem eolN_other {c : UInt8} {e : List UInt8} (h : c ≠ 10) (h1 : c ≠ 13) : eolN (c :: e) = 0 := by simp [eolN, h, h1]
theorem kept_vis {c : UInt8} {e : List UInt8} (hw : isW c = false) (h : c ≠ 10) (h1 : c ≠ 13) : KeptE (c :: e) := by
  unfold KeptE; rw [whiteN_no hw]; exact ⟨by simp, eolN_other h h1⟩
theorem kept_blank {e : List UInt8} (h : KeptE e) : KeptE (32 :: e) := by
  unfold KeptE; rw [whiteN_yes rfl]; exact h
theorem Enc.kept {e s : List UInt8} (h : Enc e s) : e = [] ∨ KeptE e := by
  induction h with
  | nil => exact .inl rfl
  | vis h r ih => have := vis_facts _ h; exact .inr (kept_vis this.2.1 this.2.2.1 this.2.2.2.1)
  | blank h r ih => exact .inr (kept_blank (ih.resolve_left h))
  | code r ih => exact .inr (kept_vis rfl (by decide) (by decide))
  | soft r ih => exact .inr (kept_vis rfl (by decide) (by decide))

theorem decStep_kept {c : UInt8} {r : List UInt8} (hw : isW c = true) (h : KeptE (c :: r)) : decStep (c :: r) = ((c :: r).take (whiteN (c :: r)), whiteN (c :: r)) := by
  rw [decStep_white r hw, if_neg]
  rintro (h1 | h1)
  · exact h.1 h1
  · rw [h.2] at h1; exact absurd h1 (by omega)
theorem dec_blank {e : List UInt8} (h : KeptE e) : dec (32 :: e) = 32 :: dec e := by
  have h1 := kept_blank h
  rw [dec_cons (by simp), decStep_kept rfl h1, whiteN_yes rfl]
  rw [List.take_succ_cons, List.drop_succ_cons, List.cons_append]
  congr 1
  match e, h with
  | c :: r, h =>
    by_cases hw : isW c = true
    · rw [dec_cons (l := c :: r) (by simp), decStep_kept hw h]
    · rw [whiteN_no (by simpa using hw)]; rfl
  | [], h => exact absurd rfl h.1

theorem Enc.dec_eq {e s : List UInt8} (h : Enc e s) : dec e = s := by
  induction h with
  | nil => exact dec_nil
  | vis h r ih =>
    rename_i c e s
    have := vis_facts _ h
    rw [dec_cons (by simp), decStep_plain _ this.1 this.2.1]
    show [c] ++ dec e = _
    rw [ih]; rfl
  | blank h r ih => rw [dec_blank (r.kept.resolve_left h), ih]
  | code r ih =>
    rename_i c e s
    have := hex_facts c
    rw [dec_cons (by simp), decStep_eq]
    have : eqF (hexHi c :: hexLo c :: e) = ([c], 3) := by
      unfold eqF
      rw [hex2, if_pos ⟨this.1, this.2.1⟩, this.2.2.1]
    rw [this]
    show [c] ++ dec e = _
    rw [ih]; rfl
  | soft r ih =>
    rename_i e s
    rw [dec_cons (by simp), decStep_eq]
    have h0 : hex2 (10 :: e) = none := by
      cases e with
      | nil => rfl
      | cons a e => rw [hex2, if_neg]; rintro ⟨h, _⟩; exact absurd h (by decide)
    have : eqF (10 :: e) = ([], 2) := by
      unfold eqF
      rw [h0, whiteN_no rfl]
      rfl
    rw [this]
    show [] ++ dec e = _
    rw [ih]; rfl

/-- what has been written so far stands for the bytes so far, whatever comes behind -/
inductive Sofar : List UInt8 → List UInt8 → Prop
  | nil : Sofar [] []
  | vis {c : UInt8} {e s : List UInt8} (h : visB c = true) (r : Sofar e s) : Sofar (e ++ [c]) (s ++ [c])
  | blank {e s : List UInt8} (r : Sofar e s) : Sofar (e ++ [32]) (s ++ [32])
  | code {c : UInt8} {e s : List UInt8} (r : Sofar e s) : Sofar (e ++ [61, hexHi c, hexLo c]) (s ++ [c])
  | soft {e s : List UInt8} (r : Sofar e s) : Sofar (e ++ [61, 10]) s

theorem Sofar.go {e s : List UInt8} (h : Sofar e s) : ∀ {e' s' : List UInt8}, Enc e' s' → e' ≠ [] → Enc (e ++ e') (s ++ s') := by
  induction h with
  | nil => intro e' s' h _; exact h
  | vis h r ih => intro e' s' h' _; rw [List.append_assoc, List.append_assoc]; exact ih (.vis h h') (by simp)
  | blank r ih => intro e' s' h' hn; rw [List.append_assoc, List.append_assoc]; exact ih (.blank hn h') (by simp)
  | code r ih => intro e' s' h' _; rw [List.append_assoc, List.append_assoc]; exact ih (.code h') (by simp)
  | soft r ih => intro e' s' h' _; rw [List.append_assoc]; exact ih (.soft h') (by simp)

theorem Sofar.whole {e s : List UInt8} (h : Sofar e s) (hl : e.getLast? ≠ some 32) : Enc e s := by
  cases h with
  | nil => exact .nil
  | vis h r => exact r.go (.vis h .nil) (by simp)
  | blank r => simp at hl
  | code r => exact r.go (.code .nil) (by simp)
  | soft r => have := r.go (.soft .nil) (by simp); rwa [List.append_nil] at this

theorem Sofar.guard {e s : List UInt8} (h : Sofar e s) : Sofar (guardL e) s := by
  cases h with
  | nil => exact .nil
  | vis h r => rw [guardL_other _ (vis_facts _ h).2.2.2.2]; exact .vis h r
  | blank r => rw [guardL_blank]; exact Sofar.code (c := 32) r
  | code r =>
    rename_i c e s
    rw [show e ++ [61, hexHi c, hexLo c] = (e ++ [61, hexHi c]) ++ [hexLo c] by simp, guardL_other _ (hex_facts c).2.2.2.1]
    rw [show (e ++ [61, hexHi c]) ++ [hexLo c] = e ++ [61, hexHi c, hexLo c] by simp]
    exact .code r
  | soft r =>
    rename_i e
    rw [show e ++ [61, 10] = (e ++ [61]) ++ [10] by simp, guardL_other _ (by decide)]
    rw [show (e ++ [61]) ++ [10] = e ++ [61, 10] by simp]
    exact .soft r

/-- what a sign is -/
theorem sign_kinds (c : UInt8) (last : Bool) : (sign c last = [c] ∧ visB c = true) ∨ (sign c last = [32] ∧ c = 32 ∧ last = false) ∨ sign c last = [61, hexHi c, hexLo c] := by
  cases last
  · exact u8_all (p := fun c => (sign c false = [c] ∧ visB c = true) ∨ (sign c false = [32] ∧ c = 32 ∧ false = false) ∨ sign c false = [61, hexHi c, hexLo c]) (by decide +kernel) c
  · exact u8_all (p := fun c => (sign c true = [c] ∧ visB c = true) ∨ (sign c true = [32] ∧ c = 32 ∧ true = false) ∨ sign c true = [61, hexHi c, hexLo c]) (by decide +kernel) c
theorem Sofar.sign {e s : List UInt8} (h : Sofar e s) (c : UInt8) (last : Bool) : Sofar (e ++ sign c last) (s ++ [c]) := by
  rcases sign_kinds c last with ⟨h1, h2⟩ | ⟨h1, rfl, _⟩ | h1
  · rw [h1]; exact .vis h2 h
  · rw [h1]; exact .blank h
  · rw [h1]; exact .code h
theorem last_of_sign (e : List UInt8) (c : UInt8) : (e ++ sign c true).getLast? ≠ some 32 := by
  rcases sign_kinds c true with ⟨h1, h2⟩ | ⟨h1, rfl, h2⟩ | h1
  · rw [h1]; simp; exact (vis_facts c h2).2.2.2.2
  · cases h2
  · rw [h1]; simp; exact (hex_facts c).2.2.2.1

theorem encGo_sofar (l : List UInt8) : ∀ (out : List UInt8) (line : Nat) (s : List UInt8), Sofar out s → (l = [] → out.getLast? ≠ some 32) → Sofar (encGo out line l) (s ++ l) ∧ (encGo out line l).getLast? ≠ some 32 := by
  induction l with
  | nil => intro out line s h hl; rw [encGo, List.append_nil]; exact ⟨h, hl rfl⟩
  | cons c r ih =>
    intro out line s h _
    have e : s ++ c :: r = (s ++ [c]) ++ r := by simp
    have hr : ∀ o : List UInt8, r = [] → (o ++ sign c r.isEmpty).getLast? ≠ some 32 := by
      intro o hr; subst hr; exact last_of_sign o c
    rw [encGo, e]
    split
    · exact ih _ _ _ ((Sofar.soft h.guard).sign c _) (hr _)
    · exact ih _ _ _ (h.sign c _) (hr _)

theorem dec_enc (l : List UInt8) : dec (enc l) = l := by
  have := encGo_sofar l [] 0 [] .nil (by simp)
  rw [List.nil_append] at this
  exact (this.1.whole this.2).dec_eq

/-! ### how long it is -/
theorem encGo_length (l : List UInt8) : ∀ (out : List UInt8) (line : Nat), line ≤ 75 → 73 * (encGo out line l).length ≤ 73 * out.length + 4 * line + 231 * l.length := by
  induction l with
  | nil => intro out line h; rw [encGo]; omega
  | cons c r ih =>
    intro out line h
    have h1 := sign_length c r.isEmpty
    rw [encGo]
    split
    · have h2 := ih (guardL out ++ [61, 10] ++ sign c r.isEmpty) (sign c r.isEmpty).length (by omega)
      have h3 := guardL_length out
      rw [List.length_append, List.length_append] at h2
      rw [List.length_cons]
      simp only [List.length_cons, List.length_nil] at h2
      omega
    · have h2 := ih (out ++ sign c r.isEmpty) (line + (sign c r.isEmpty).length) (by omega)
      rw [List.length_append] at h2
      rw [List.length_cons]
      omega
theorem enc_length (l : List UInt8) : (enc l).length ≤ 4 * l.length := by
  have := encGo_length l [] 0 (by omega)
  unfold enc
  simp only [List.length_nil] at this
  omega
end Go.Proofs.Ytlllboleinnfiaa
