/- PURE: tokens written, and read to the same, by any way of writing signs that is read back. No statement is proved here. Own work of the verifier. -/
import Derived.Test.YtmojckphfbcibaaGreatDoorBaseN
namespace Go.Proofs.YtmojckphfbcibaaGreatDoor
set_option linter.unusedVariables false
set_option linter.unusedSimpArgs false
theorem tw_of {p : UInt8 → Bool} {m b : List UInt8} {c : UInt8} (h : ∀ x ∈ m, p x = true) (hc : p c = false) : (m ++ c :: b).takeWhile p = m ∧ (m ++ c :: b).dropWhile p = c :: b := by
  induction m with
  | nil => simp [hc]
  | cons a r ih =>
    have ha := h a (List.mem_cons_self ..)
    have := ih (fun x hx => h x (List.mem_cons_of_mem _ hx))
    simp [ha, this.1, this.2]
def attrW (escV : List UInt8 → List UInt8) (a : AtL) : List UInt8 := 32 :: (a.1 ++ 61 :: 34 :: (escV a.2 ++ [34]))
def attrsW (escV : List UInt8 → List UInt8) (A : List AtL) : List UInt8 := A.flatMap (attrW escV)
def tokW (escT escV : List UInt8 → List UInt8) (t : TokL) : List UInt8 :=
  if t.kind = 1 then escT t.text else if t.kind = 2 then 60 :: (t.name ++ (attrsW escV t.attrs ++ [62])) else if t.kind = 3 then 60 :: 47 :: (t.name ++ [62]) else []
def writeTs (escT escV : List UInt8 → List UInt8) (L : List TokL) : List UInt8 := L.flatMap (tokW escT escV)
/-- a name of letters and digits, that begins with a letter -/
def nameOK (N : List UInt8) : Prop := ∃ c r, N = c :: r ∧ letterB c = true ∧ ∀ x ∈ c :: r, (letterB x || digitB x) = true
theorem alnum_ends (c : UInt8) (h : (letterB c || digitB c) = true) : attrEndB c = false ∧ whs c = false ∧ c ≠ 62 ∧ c ≠ 47 ∧ c ≠ 33 ∧ c ≠ 63 ∧ nameEndB c = false :=
  u8_all (p := fun c => (letterB c || digitB c) = true → (attrEndB c = false ∧ whs c = false ∧ c ≠ 62 ∧ c ≠ 47 ∧ c ≠ 33 ∧ c ≠ 63 ∧ nameEndB c = false)) (by decide +kernel) c h
theorem name_up {N R : List UInt8} {c : UInt8} (h : nameOK N) (hc : nameEndB c = true) : upL nameEndB (N ++ c :: R) = (N, c :: R) := by
  obtain ⟨a, r, rfl, _, h2⟩ := h
  obtain ⟨e1, e2⟩ := tw_of (p := fun c => !nameEndB c) (m := a :: r) (b := R) (c := c) (fun x hx => by simp [(alnum_ends x (h2 x hx)).2.2.2.2.2.2]) (by simp [hc])
  unfold upL
  rw [e1, e2]
/-- what is asked of the ways of writing and reading -/
structure EscOK (dec escT escV : List UInt8 → List UInt8) : Prop where
  t60 : ∀ x, 60 ∉ escT x
  tdec : ∀ x, dec (escT x) = x
  tne : ∀ x, x ≠ [] → escT x ≠ []
  v34 : ∀ x, 34 ∉ escV x
  vdec : ∀ x, dec (escV x) = x
theorem attr_back {dec escT escV : List UInt8 → List UInt8} (E : EscOK dec escT escV) {a : AtL} (h : nameOK a.1) (hl : lowL a.1 = a.1) (R : List UInt8) :
    ∃ c r, (attrW escV a ++ R).dropWhile whs = c :: r ∧ c ≠ 62 ∧ attrL dec (c :: r) = (a, R) := by
  obtain ⟨n, v⟩ := a
  obtain ⟨c, r, hn, h1, h2⟩ := h
  have hn : n = c :: r := hn
  subst hn
  have hc := alnum_ends c (h2 c (List.mem_cons_self ..))
  refine ⟨c, r ++ 61 :: 34 :: (escV v ++ 34 :: R), ?_, hc.2.2.1, ?_⟩
  · unfold attrW
    rw [show (32 :: ((c :: r, v).1 ++ 61 :: 34 :: (escV (c :: r, v).2 ++ [34])) ++ R : List UInt8) = 32 :: c :: (r ++ 61 :: 34 :: (escV v ++ 34 :: R)) by simp]
    rw [List.dropWhile_cons, if_pos (by decide), List.dropWhile_cons, if_neg (by rw [hc.2.1]; decide)]
  · obtain ⟨e1, e2⟩ := tw_of (p := fun c => !attrEndB c) (m := r) (b := 34 :: (escV v ++ 34 :: R)) (c := 61) (fun x hx => by simp [(alnum_ends x (h2 x (List.mem_cons_of_mem _ hx))).1]) (by decide)
    obtain ⟨e3, e4⟩ := tw_of (p := fun x => x != 34) (m := escV v) (b := R) (c := 34) (fun x hx => by
      have : x ≠ 34 := fun e => E.v34 v (by rw [← e]; exact hx)
      simpa using this) (by decide)
    have hu : upL attrEndB (r ++ 61 :: 34 :: (escV v ++ 34 :: R)) = (r, 61 :: 34 :: (escV v ++ 34 :: R)) := by unfold upL; rw [e1, e2]
    have hv : valueL (34 :: (escV v ++ 34 :: R)) = (escV v, R) := by
      unfold valueL
      simp only
      rw [if_pos trivial]
      unfold beforeC afterC
      rw [e3, e4]; rfl
    rw [attrL_val (b := 34 :: (escV v ++ 34 :: R)) (by rw [hu]; show (61 :: _ : List UInt8).dropWhile whB = _; rw [List.dropWhile_cons, if_neg (by decide)]), hu]
    rw [show (34 :: (escV v ++ 34 :: R) : List UInt8).dropWhile whB = 34 :: (escV v ++ 34 :: R) by rw [List.dropWhile_cons, if_neg (by decide)], hv]
    simp only
    rw [E.vdec]
    rw [show lowL (c :: r) = c :: r from hl]
theorem attrs_back {dec escT escV : List UInt8 → List UInt8} (E : EscOK dec escT escV) (R : List UInt8) : ∀ (Bs A : List AtL), (∀ a ∈ Bs, nameOK a.1 ∧ lowL a.1 = a.1) → (A ++ Bs).Pairwise (fun a b => a.1 ≠ b.1) → (A ++ Bs).length ≤ 30 →
    attrsLL dec A (attrsW escV Bs ++ 62 :: R) = some (A ++ Bs, R)
  | [], A, _, _, _ => by
    rw [attrsLL_end (r := R) (by show (62 :: R).dropWhile whs = _; rw [List.dropWhile_cons, if_neg (by decide)]), List.append_nil]
  | a :: Bs, A, h1, h2, h3 => by
    obtain ⟨g1, g2⟩ := h1 a (List.mem_cons_self ..)
    have e : attrsW escV (a :: Bs) ++ 62 :: R = attrW escV a ++ (attrsW escV Bs ++ 62 :: R) := by unfold attrsW; rw [List.flatMap_cons, List.append_assoc]
    obtain ⟨c, r, e1, e2, e3⟩ := attr_back E g1 g2 (attrsW escV Bs ++ 62 :: R)
    rw [e, attrsLL_go e1 e2, e3]
    have hcnt : countsB A a.1 = true := by
      unfold countsB
      rw [Bool.and_eq_true, decide_eq_true_eq, Bool.not_eq_true', List.any_eq_false]
      refine ⟨by rw [List.length_append] at h3; simp at h3; omega, fun x hx => ?_⟩
      have := (List.pairwise_append.1 h2).2.2 x hx a (List.mem_cons_self ..)
      simpa using this
    simp only
    rw [if_pos hcnt]
    have ea : A ++ a :: Bs = (A ++ [a]) ++ Bs := by simp
    rw [ea] at h2 h3 ⊢
    exact attrs_back E R Bs (A ++ [a]) (fun x hx => h1 x (List.mem_cons_of_mem _ hx)) h2 h3
theorem tag_back {dec escT escV : List UInt8 → List UInt8} (E : EscOK dec escT escV) {N R : List UInt8} {A : List AtL} (hN : nameOK N) (h1 : ∀ a ∈ A, nameOK a.1 ∧ lowL a.1 = a.1) (h2 : A.Pairwise (fun a b => a.1 ≠ b.1)) (h3 : A.length ≤ 30) :
    tagL dec (N ++ (attrsW escV A ++ 62 :: R)) = some (lowL N, A, R) := by
  have hu : upL nameEndB (N ++ (attrsW escV A ++ 62 :: R)) = (N, attrsW escV A ++ 62 :: R) := by
    cases A with
    | nil => exact name_up hN (by decide)
    | cons a B => exact name_up hN (by decide)
  unfold tagL
  rw [hu]
  simp only
  rw [attrs_back E R A [] h1 (by simpa using h2) (by simpa using h3)]
  rfl
/-- tokens that may be written and read; the second has the names as they are read -/
def ReadT (u t : TokL) : Prop := u.kind = t.kind ∧ u.attrs = t.attrs ∧ u.text = t.text ∧
  ((t.kind = 1 ∧ t.name = [] ∧ t.attrs = [] ∧ t.text ≠ []) ∨
   (t.kind = 3 ∧ nameOK u.name ∧ lowL u.name = t.name ∧ t.attrs = [] ∧ t.text = []) ∨
   (t.kind = 2 ∧ nameOK u.name ∧ lowL u.name = t.name ∧ t.text = [] ∧ (∀ a ∈ t.attrs, nameOK a.1 ∧ lowL a.1 = a.1) ∧ t.attrs.Pairwise (fun a b => a.1 ≠ b.1) ∧ t.attrs.length ≤ 30 ∧ rawL.contains t.name = false))
/-- row by row -/
inductive TokR : List TokL → List TokL → Prop
  | nil : TokR [] []
  | cons {u t : TokL} {U L : List TokL} : ReadT u t → TokR U L → TokR (u :: U) (t :: L)
theorem markN_upto {R : List UInt8} (hR : R = [] ∨ isMarkB R = true) : ∀ a : List UInt8, 60 ∉ a → markN (a ++ R) = a.length
  | [], _ => by
    cases R with
    | nil => rfl
    | cons c r =>
      show markN (c :: r) = 0
      unfold markN
      rcases hR with h | h
      · cases h
      · rw [if_pos h]
  | c :: a, h => by
    have hc : c ≠ 60 := fun e => h (by rw [e]; exact List.mem_cons_self ..)
    have hm : isMarkB (c :: (a ++ R)) = false := by
      unfold isMarkB
      split
      · rename_i heq; injection heq with h1 h2; exact absurd h1 hc
      · rfl
    rw [List.cons_append]
    unfold markN
    rw [if_neg (by rw [hm]; decide), markN_upto hR a (fun hm => h (List.mem_cons_of_mem _ hm))]; rfl
theorem mark_start {c : UInt8} (h : letterB c = true) (r : List UInt8) : isMarkB (60 :: c :: r) = true := by
  have := alnum_ends c (by rw [h]; rfl)
  unfold isMarkB
  simp only
  rw [if_neg (fun e => e.elim this.2.2.2.2.1 this.2.2.2.2.2.1), if_neg this.2.2.2.1]
  exact h
theorem markL_start {dec : List UInt8 → List UInt8} {c : UInt8} (h : letterB c = true) (r : List UInt8) : markL dec (c :: r) = startL dec (c :: r) := by
  have := alnum_ends c (by rw [h]; rfl)
  unfold markL
  split
  · rename_i q heq; injection heq with h1 h2; exact absurd h1 this.2.2.2.1
  · rename_i q heq; injection heq with h1 h2; exact absurd h1 this.2.2.2.2.1
  · rename_i q heq; injection heq with h1 h2; exact absurd h1 this.2.2.2.2.2.1
  · rfl
/-- what is written begins with a mark, but for characters -/
theorem write_mark {escT escV : List UInt8 → List UInt8} {u t : TokL} (h : ReadT u t) (hk : t.kind ≠ 1) (R : List UInt8) : isMarkB (tokW escT escV u ++ R) = true := by
  obtain ⟨k, _, _, h⟩ := h
  unfold tokW
  rw [k, if_neg hk]
  rcases h with h | h | h
  · exact absurd h.1 hk
  · rw [if_neg (by rw [h.1]; decide), if_pos h.1]
    simp [isMarkB]
  · rw [if_pos h.1]
    obtain ⟨c, r, e, hc, _⟩ := h.2.1
    rw [e]
    exact mark_start hc _
theorem tok_eta {t : TokL} {k : Nat} {n : List UInt8} {A : List AtL} {x : List UInt8} (h1 : t.kind = k) (h2 : t.name = n) (h3 : t.attrs = A) (h4 : t.text = x) : t = ⟨k, n, A, x⟩ := by
  obtain ⟨a, b, c, d⟩ := t
  simp only at h1 h2 h3 h4
  subst h1 h2 h3 h4; rfl
/-- tokens that are written are read to the same -/
theorem scan_write {dec escT escV : List UInt8 → List UInt8} (E : EscOK dec escT escV) : ∀ (U L : List TokL), TokR U L → (∀ (i : Nat) (a b : TokL), L[i]? = some a → L[i + 1]? = some b → ¬ (a.kind = 1 ∧ b.kind = 1)) →
    ∀ (O : List TokL) (x : List UInt8), (x = [] ∨ ∀ t, L.head? = some t → t.kind ≠ 1) → scanL dec O x (writeTs escT escV U) = flushT O x ++ L
  | [], [], _, _, O, x, _ => by
    show scanL dec O x [] = _
    rw [scanL_nil, List.append_nil]
  | u :: U, t :: L, hR, hadj, O, x, hx => by
    obtain ⟨hut, hR2⟩ : ReadT u t ∧ TokR U L := by cases hR with | cons a b => exact ⟨a, b⟩
    have hadj2 : ∀ (i : Nat) (a b : TokL), L[i]? = some a → L[i + 1]? = some b → ¬ (a.kind = 1 ∧ b.kind = 1) := fun i a b ha hb => hadj (i + 1) a b (by simpa using ha) (by simpa using hb)
    have ih := scan_write E U L hR2 hadj2
    have e : writeTs escT escV (u :: U) = tokW escT escV u ++ writeTs escT escV U := by unfold writeTs; rw [List.flatMap_cons]
    have hread := hut
    obtain ⟨k, ka, kt, h⟩ := hut
    rw [e]
    rcases h with ⟨h1, h2, h3, h4⟩ | ⟨h1, h2, h3, h4, h5⟩ | ⟨h1, h2, h3, h4, h5, h6, h7, h8⟩
    · have hx0 : x = [] := hx.resolve_right (fun hh => hh t rfl h1)
      subst hx0
      have ew : tokW escT escV u = escT t.text := by unfold tokW; rw [k, if_pos h1, kt]
      have hnx : ∀ q, L.head? = some q → q.kind ≠ 1 := fun q hq hk => by
        cases L with
        | nil => cases hq
        | cons p L => injection hq with hq; subst hq; exact hadj 0 t p rfl rfl ⟨h1, hk⟩
      have hRm : writeTs escT escV U = [] ∨ isMarkB (writeTs escT escV U) = true := by
        cases hR2 with
        | nil => exact .inl rfl
        | cons hab _ =>
          refine .inr ?_
          unfold writeTs
          rw [List.flatMap_cons]
          exact write_mark hab (hnx _ rfl) _
      rw [ew]
      have hm := markN_upto hRm (escT t.text) (E.t60 _)
      have hne := E.tne _ h4
      obtain ⟨c, r, hcr⟩ : ∃ c r, escT t.text ++ writeTs escT escV U = c :: r := by
        cases hq : escT t.text with
        | nil => exact absurd hq hne
        | cons c r => exact ⟨c, r ++ writeTs escT escV U, rfl⟩
      rw [hcr] at hm ⊢
      rw [scanL_text dec O [] (by rw [hm]; exact List.length_pos_iff.2 hne), hm, ← hcr, List.take_left, List.drop_left, E.tdec, List.nil_append, ih O t.text (.inr hnx)]
      unfold flushT
      rw [if_neg h4, if_pos rfl, List.append_assoc]
      rw [show t = charsT t.text from tok_eta h1 h2 h3 rfl]; rfl
    · have h2' := h2
      obtain ⟨c, r, hN, hc, _⟩ := h2
      have ew : tokW escT escV u ++ writeTs escT escV U = 60 :: 47 :: (u.name ++ (attrsW escV [] ++ 62 :: writeTs escT escV U)) := by
        unfold tokW
        rw [k, if_neg (by rw [h1]; decide), if_neg (by rw [h1]; decide), if_pos h1]; simp [attrsW]
      have hm : markL dec (47 :: (u.name ++ (attrsW escV [] ++ 62 :: writeTs escT escV U))) = (some (endT t.name), [], writeTs escT escV U) := by
        have ht := tag_back E (R := writeTs escT escV U) h2' (A := []) (fun a ha => by cases ha) List.Pairwise.nil (by decide)
        rw [hN] at ht ⊢
        rw [List.cons_append, markL_end hc, ← List.cons_append]
        unfold endL
        rw [ht]
        simp only
        rw [← hN, h3]
      rw [ew, scanL_mark dec O x (by rw [hN]; simp [isMarkB]), hm]
      unfold addT
      simp only
      rw [ih _ [] (.inl rfl)]
      unfold flushT
      rw [if_pos rfl, List.append_assoc]
      rw [show t = endT t.name from tok_eta h1 rfl h4 h5]; rfl
    · have h2' := h2
      obtain ⟨c, r, hN, hc, _⟩ := h2
      have ew : tokW escT escV u ++ writeTs escT escV U = 60 :: (u.name ++ (attrsW escV t.attrs ++ 62 :: writeTs escT escV U)) := by
        unfold tokW
        rw [k, if_neg (by rw [h1]; decide), if_pos h1, ka]; simp
      have hm : markL dec (u.name ++ (attrsW escV t.attrs ++ 62 :: writeTs escT escV U)) = (some (startT t.name t.attrs), [], writeTs escT escV U) := by
        have ht := tag_back E (R := writeTs escT escV U) h2' h5 h6 h7
        rw [hN] at ht ⊢
        rw [List.cons_append, markL_start hc, ← List.cons_append]
        unfold startL
        rw [ht]
        simp only
        rw [← hN, h3, if_neg (by rw [h8]; decide)]
      rw [ew, hN, List.cons_append, scanL_mark dec O x (mark_start hc _), ← List.cons_append, ← hN, hm]
      unfold addT
      simp only
      rw [ih _ [] (.inl rfl)]
      unfold flushT
      rw [if_pos rfl, List.append_assoc]
      rw [show t = startT t.name t.attrs from tok_eta h1 rfl rfl h4]; rfl
end Go.Proofs.YtmojckphfbcibaaGreatDoor
