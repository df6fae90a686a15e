/- What ent.Text and ent.Value write, as lists, and what ent.Decode reads of it. No statement is proved here. -/
import Derived.Test.YtmojckphfbcibaaGreatDoorEntD
import Derived.Test.YtmojckphfbcibaaGreatDoorEntI
namespace Go.Proofs.YtmojckphfbcibaaGreatDoor
open Go.RowKit
set_option linter.unusedVariables false
set_option linter.unusedSimpArgs false
set_option maxRecDepth 100000
def quT : List UInt8 := [38, 113, 117, 111, 116, 59]
/-- a text written; q: as a value -/
def escQ (q : Bool) : List UInt8 → List UInt8
  | [] => []
  | c :: r => if q = true ∧ c = 34 then quT ++ escQ q r else match lookL (c :: r) with
    | some (t, n) => t ++ escQ q (r.drop (n - 1))
    | none => c :: escQ q r
termination_by l => l.length
decreasing_by all_goals simp; try omega
theorem look_forms {l t : List UInt8} {n : Nat} (h : lookL l = some (t, n)) : ∃ r, (l = 38 :: r ∧ t = ampT ∧ n = 1) ∨ (l = 60 :: r ∧ t = ltT ∧ n = 1) ∨ (l = 62 :: r ∧ t = gtT ∧ n = 1) ∨ (l = 194 :: 160 :: r ∧ t = nbT ∧ n = 2) := by
  unfold lookL at h
  split at h <;> first
    | (rename_i r; injection h with h; injection h with h1 h2; subst h1 h2; exact ⟨r, by simp⟩)
    | cases h
theorem escQ_nil (q : Bool) : escQ q [] = [] := by rw [escQ]
theorem escQ_quote (r : List UInt8) : escQ true (34 :: r) = quT ++ escQ true r := by rw [escQ, if_pos ⟨rfl, rfl⟩]
theorem escQ_some {q : Bool} {l t : List UInt8} {n : Nat} (h : lookL l = some (t, n)) : escQ q l = t ++ escQ q (l.drop n) := by
  obtain ⟨r, ⟨rfl, rfl, rfl⟩ | ⟨rfl, rfl, rfl⟩ | ⟨rfl, rfl, rfl⟩ | ⟨rfl, rfl, rfl⟩⟩ := look_forms h
  all_goals
    rw [escQ, if_neg (by intro e; exact absurd e.2 (by decide)), h]
    rfl
theorem escQ_none {q : Bool} {c : UInt8} {r : List UInt8} (h : lookL (c :: r) = none) (hq : ¬(q = true ∧ c = 34)) : escQ q (c :: r) = c :: escQ q r := by
  rw [escQ, if_neg hq, h]
theorem esc_ind (q : Bool) {P : List UInt8 → Prop} (h0 : P []) (hq : q = true → ∀ r, P r → P (34 :: r)) (hs : ∀ l t n, lookL l = some (t, n) → P (l.drop n) → P l) (hn : ∀ c r, lookL (c :: r) = none → ¬(q = true ∧ c = 34) → P r → P (c :: r)) : ∀ (k : Nat) (l : List UInt8), l.length ≤ k → P l
  | _, [], _ => h0
  | 0, c :: r, h => absurd h (by simp)
  | k + 1, c :: r, h => by
    by_cases e : q = true ∧ c = 34
    · obtain ⟨e1, rfl⟩ := e
      exact hq e1 r (esc_ind q h0 hq hs hn k r (by simpa using h))
    · cases hl : lookL (c :: r) with
      | none => exact hn c r hl e (esc_ind q h0 hq hs hn k r (by simpa using h))
      | some p =>
        obtain ⟨t, n⟩ := p
        have hp := lookL_some hl
        exact hs _ t n hl (esc_ind q h0 hq hs hn k _ (by rw [List.length_drop]; simp only [List.length_cons] at h ⊢; omega))
theorem escG_Q (l : List UInt8) : escG l = escQ false l := by
  refine esc_ind false (P := fun l => escG l = escQ false l) ?_ ?_ ?_ ?_ l.length l (Nat.le_refl _)
  · rw [escQ_nil, escG]
  · intro h; cases h
  · intro l t n h ih
    rw [escQ_some h, escG_some h, ih]
  · intro c r h hq ih
    rw [escQ_none h hq, escG_none h, ih]
theorem look_off38 {c : UInt8} {r : List UInt8} (h : lookL (c :: r) = none) : c ≠ 38 ∧ c ≠ 60 ∧ c ≠ 62 := by
  refine ⟨?_, ?_, ?_⟩ <;> (rintro rfl; cases h)
/-! ### reading -/
theorem before_app {c : UInt8} {k : List UInt8} (hk : c ∉ k) (X : List UInt8) : beforeC c (k ++ c :: X) = k ∧ afterC c (k ++ c :: X) = X ∧ hasC c (k ++ c :: X) = true := by
  refine ⟨?_, ?_, by simp [hasC]⟩
  · induction k with
    | nil => simp [beforeC]
    | cons a k ih =>
      have h1 : (a != c) = true := by rw [bne_iff_ne]; rintro rfl; exact hk (by simp)
      have h2 := ih (fun h => hk (List.mem_cons_of_mem _ h))
      unfold beforeC at h2 ⊢
      rw [List.cons_append, List.takeWhile_cons, h1]
      simp only [if_true]
      rw [h2]
  · induction k with
    | nil => simp [afterC]
    | cons a k ih =>
      have h1 : (a != c) = true := by rw [bne_iff_ne]; rintro rfl; exact hk (by simp)
      have h2 := ih (fun h => hk (List.mem_cons_of_mem _ h))
      unfold afterC at h2 ⊢
      rw [List.cons_append, List.dropWhile_cons, h1]
      simp only [if_true]
      exact h2
theorem cons_off {c : UInt8} (hc : c ≠ 38) (r : List UInt8) : beforeC 38 (c :: r) = c :: beforeC 38 r ∧ afterC 38 (c :: r) = afterC 38 r ∧ hasC 38 (c :: r) = hasC 38 r := by
  have h1 : (c != 38) = true := by rw [bne_iff_ne]; exact hc
  refine ⟨?_, ?_, ?_⟩
  · unfold beforeC; rw [List.takeWhile_cons, h1]; rfl
  · unfold afterC; rw [List.dropWhile_cons, h1]; rfl
  · unfold hasC
    congr 1
    rw [List.mem_cons, eq_iff_iff]
    exact ⟨fun h => h.elim (fun e => absurd e.symm hc) id, .inr⟩
theorem decE_nil : decE [] = [] := decE_no rfl
theorem decE_cons {c : UInt8} (hc : c ≠ 38) (r : List UInt8) : decE (c :: r) = c :: decE r := by
  obtain ⟨e1, e2, e3⟩ := cons_off hc r
  cases h : hasC 38 r with
  | false => rw [decE_no h, decE_no (e3.trans h)]
  | true => rw [decE_yes h, decE_yes (e3.trans h), e1, e2, List.cons_append]
theorem decE_amp (r : List UInt8) : decE (38 :: r) = if 0 < (refN r).2 then runeL (refN r).1 ++ decE (r.drop (refN r).2) else 38 :: decE r := by
  have e1 : beforeC 38 (38 :: r) = [] := by simp [beforeC]
  have e2 : afterC 38 (38 :: r) = r := by simp [afterC]
  rw [decE_yes (by simp [hasC]), e1, e2, List.nil_append]
theorem refN_at {k : List UInt8} (hk : (59 : UInt8) ∉ k) (hl : k.length ≤ 8) (X : List UInt8) : refN (k ++ 59 :: X) = match sgn k with | some x => (x, k.length + 1) | none => (0, 0) := by
  have e : (k ++ 59 :: X).take 9 = k ++ 59 :: X.take (8 - k.length) := by
    rw [List.take_append, List.take_of_length_le (by omega)]
    obtain ⟨m, hm⟩ : ∃ m, 9 - k.length = m + 1 := ⟨8 - k.length, by omega⟩
    rw [hm, List.take_succ_cons, show m = 8 - k.length by omega]
  obtain ⟨e1, e2, e3⟩ := before_app hk (X.take (8 - k.length))
  unfold refN
  rw [e, e1, e3]
  cases sgn k <;> rfl
theorem dec_ref {k : List UInt8} {x : Int} (hk : (59 : UInt8) ∉ k) (hl : k.length ≤ 8) (hs : sgn k = some x) (X : List UInt8) : decE (38 :: (k ++ 59 :: X)) = runeL x ++ decE X := by
  rw [decE_amp, refN_at hk hl, hs]
  simp only
  rw [if_pos (Nat.succ_pos _), show (k ++ 59 :: X).drop (k.length + 1) = X by rw [List.drop_append]; simp]
theorem dec_esc (q : Bool) (l : List UInt8) : decE (escQ q l) = l := by
  refine esc_ind q (P := fun l => decE (escQ q l) = l) ?_ ?_ ?_ ?_ l.length l (Nat.le_refl _)
  · rw [escQ_nil, decE_nil]
  · rintro rfl r ih
    rw [escQ_quote]
    have := dec_ref (k := [113, 117, 111, 116]) (x := 34) (by decide) (by decide) (by decide) (escQ true r)
    rw [ih] at this
    exact this
  · intro l t n h ih
    rw [escQ_some h]
    obtain ⟨r, ⟨rfl, rfl, rfl⟩ | ⟨rfl, rfl, rfl⟩ | ⟨rfl, rfl, rfl⟩ | ⟨rfl, rfl, rfl⟩⟩ := look_forms h
    · have := dec_ref (k := [97, 109, 112]) (x := 38) (by decide) (by decide) (by decide) (escQ q r)
      exact this.trans (congrArg _ ih)
    · have := dec_ref (k := [108, 116]) (x := 60) (by decide) (by decide) (by decide) (escQ q r)
      exact this.trans (congrArg _ ih)
    · have := dec_ref (k := [103, 116]) (x := 62) (by decide) (by decide) (by decide) (escQ q r)
      exact this.trans (congrArg _ ih)
    · have := dec_ref (k := [110, 98, 115, 112]) (x := 160) (by decide) (by decide) (by decide) (escQ q r)
      exact this.trans (congrArg _ ih)
  · intro c r h hq ih
    rw [escQ_none h hq, decE_cons (look_off38 h).1, ih]
theorem esc_inj (q : Bool) {a b : List UInt8} (h : escQ q a = escQ q b) : a = b := by rw [← dec_esc q a, h, dec_esc]
/-! ### the size of what is read -/
theorem name_one (c : UInt8) : nameN [c] = none := u8_all (p := fun c => nameN [c] = none) (by decide +kernel) c
theorem sgn_two {k : List UInt8} {x : Int} (h : sgn k = some x) : 2 ≤ k.length := by
  match k, h with
  | [], h => rw [show sgn [] = none by decide] at h; cases h
  | [c], h =>
    by_cases hc : c = 35
    · subst hc
      rw [show sgn [35] = none by decide] at h; cases h
    · unfold sgn at h
      split at h
      · rename_i hp
        have : 35 = c := by simpa [Lib.hasPrefix] using hp
        exact absurd this.symm hc
      · rw [name_one] at h; cases h
  | _ :: _ :: _, _ => simp
theorem refN_three {l : List UInt8} (h : 0 < (refN l).2) : 3 ≤ (refN l).2 := by
  unfold refN at h ⊢
  split
  · rename_i x h1 h2
    have := sgn_two h1
    show 3 ≤ _ + 1
    omega
  · rename_i hno
    split at h
    · rename_i x h1 h2
      exact absurd h2 (by intro h2; exact hno x h1 h2)
    · exact absurd h (by decide)
theorem decE_len : ∀ (k : Nat) (l : List UInt8), l.length ≤ k → (decE l).length ≤ l.length
  | _, [], _ => by rw [decE_nil]; exact Nat.le_refl _
  | 0, c :: r, h => absurd h (by simp)
  | k + 1, c :: r, h => by
    by_cases hc : c = 38
    · subst hc
      rw [decE_amp]
      split
      · rename_i hn
        have h3 := refN_three hn
        have hle := (refN_ok r).2
        have hr := (runeL_length (refN r).1).2.1
        have := decE_len k (r.drop (refN r).2) (by rw [List.length_drop]; simp only [List.length_cons] at h; omega)
        rw [List.length_drop] at this
        rw [List.length_append, List.length_cons]
        omega
      · have := decE_len k r (by simpa using h)
        simp only [List.length_cons]; omega
    · have := decE_len k r (by simpa using h)
      rw [decE_cons hc]
      simp only [List.length_cons]; omega
/-! ### one behind the other -/
theorem look_app {c : UInt8} {r : List UInt8} (h : lookL (c :: r) = none) (hr : c ≠ 194 ∨ r ≠ []) (b : List UInt8) : lookL (c :: (r ++ b)) = none := by
  obtain ⟨h1, h2, h3⟩ := look_off38 h
  by_cases hc : c = 194
  · subst hc
    match r, hr with
    | a :: r, _ =>
      refine look_194n ?_
      rintro rfl
      cases h
  · exact look_off (by rintro (e | e | e | e) <;> first | exact h1 e | exact h2 e | exact h3 e | exact hc e)
theorem look_app_some {l t : List UInt8} {n : Nat} (h : lookL l = some (t, n)) (b : List UInt8) : lookL (l ++ b) = some (t, n) := by
  obtain ⟨r, ⟨rfl, rfl, rfl⟩ | ⟨rfl, rfl, rfl⟩ | ⟨rfl, rfl, rfl⟩ | ⟨rfl, rfl, rfl⟩⟩ := look_forms h
  all_goals rfl
theorem esc_app (q : Bool) (a b : List UInt8) : a.getLast? ≠ some 194 → escQ q (a ++ b) = escQ q a ++ escQ q b := by
  refine esc_ind q (P := fun a => a.getLast? ≠ some 194 → escQ q (a ++ b) = escQ q a ++ escQ q b) ?_ ?_ ?_ ?_ a.length a (Nat.le_refl _)
  · intro _
    rw [escQ_nil]; rfl
  · rintro rfl r ih hl
    rw [List.cons_append, escQ_quote, escQ_quote, ih ?_, List.append_assoc]
    intro e; apply hl
    rw [List.getLast?_cons, e]; rfl
  · intro l t n h ih hl
    have hp := lookL_some h
    rw [escQ_some h, escQ_some (look_app_some h b), List.drop_append_of_le_length hp.2.2.1, ih ?_, List.append_assoc]
    intro e; apply hl
    have hd : l = l.take n ++ l.drop n := (List.take_append_drop n l).symm
    rw [hd, List.getLast?_append, e]; rfl
  · intro c r h hq ih hl
    have hr : c ≠ 194 ∨ r ≠ [] := by
      by_cases hc : c = 194
      · refine .inr ?_
        rintro rfl
        exact hl (by rw [hc]; rfl)
      · exact .inl hc
    rw [List.cons_append, escQ_none (look_app h hr b) hq, escQ_none h hq, ih ?_]
    · rfl
    intro e; apply hl
    rw [List.getLast?_cons, e]; rfl
/-! ### what stands in it -/
theorem esc_no (q : Bool) (l : List UInt8) : ∀ c ∈ escQ q l, c ≠ 60 ∧ c ≠ 62 ∧ (q = true → c ≠ 34) := by
  refine esc_ind q (P := fun l => ∀ c ∈ escQ q l, c ≠ 60 ∧ c ≠ 62 ∧ (q = true → c ≠ 34)) ?_ ?_ ?_ ?_ l.length l (Nat.le_refl _)
  · intro c h; rw [escQ_nil] at h; cases h
  · rintro rfl r ih c h
    rw [escQ_quote, List.mem_append] at h
    rcases h with h | h
    · have : ∀ c ∈ quT, c ≠ 60 ∧ c ≠ 62 ∧ c ≠ 34 := by decide
      obtain ⟨a1, a2, a3⟩ := this c h
      exact ⟨a1, a2, fun _ => a3⟩
    · exact ih c h
  · intro l t n h ih c hc
    rw [escQ_some h, List.mem_append] at hc
    rcases hc with hc | hc
    · have : ∀ c ∈ t, c ≠ 60 ∧ c ≠ 62 ∧ c ≠ 34 := by
        obtain ⟨r, ⟨rfl, rfl, rfl⟩ | ⟨rfl, rfl, rfl⟩ | ⟨rfl, rfl, rfl⟩ | ⟨rfl, rfl, rfl⟩⟩ := look_forms h <;> decide
      obtain ⟨a1, a2, a3⟩ := this c hc
      exact ⟨a1, a2, fun _ => a3⟩
    · exact ih c hc
  · intro c r h hq ih x hx
    rw [escQ_none h hq, List.mem_cons] at hx
    rcases hx with rfl | hx
    · obtain ⟨h1, h2, h3⟩ := look_off38 h
      exact ⟨h2, h3, fun e => fun e' => hq ⟨e, e'⟩⟩
    · exact ih x hx
/-- what stands behind a reference's sign that was written -/
def GoodR (r : List UInt8) : Prop := ∃ k X, r = k ++ 59 :: X ∧ (k = [97, 109, 112] ∨ k = [108, 116] ∨ k = [103, 116] ∨ k = [110, 98, 115, 112] ∨ k = [113, 117, 111, 116])
theorem good_app {k : List UInt8} (hk : k = [97, 109, 112] ∨ k = [108, 116] ∨ k = [103, 116] ∨ k = [110, 98, 115, 112] ∨ k = [113, 117, 111, 116]) {E : List UInt8} (ih : ∀ i r, E.drop i = 38 :: r → GoodR r) : ∀ i r, (38 :: (k ++ 59 :: E)).drop i = 38 :: r → GoodR r := by
  intro i r h
  cases i with
  | zero =>
    injection h with _ h
    exact ⟨k, E, h.symm, hk⟩
  | succ i =>
    rw [List.drop_succ_cons] at h
    by_cases hi : i < (k ++ [59]).length
    · exfalso
      have e : k ++ 59 :: E = (k ++ [59]) ++ E := by simp
      rw [e, List.drop_append_of_le_length (Nat.le_of_lt hi)] at h
      have h0 := List.drop_eq_getElem_cons hi
      rw [h0] at h
      injection h with h1 _
      have hm : (38 : UInt8) ∈ k ++ [59] := h1 ▸ List.getElem_mem hi
      rcases hk with rfl | rfl | rfl | rfl | rfl <;> exact absurd hm (by decide)
    · have e : k ++ 59 :: E = (k ++ [59]) ++ E := by simp
      rw [e, List.drop_append, List.drop_eq_nil_of_le (by omega), List.nil_append] at h
      exact ih _ r h
theorem esc_good (q : Bool) (l : List UInt8) : ∀ i r, (escQ q l).drop i = 38 :: r → GoodR r := by
  refine esc_ind q (P := fun l => ∀ i r, (escQ q l).drop i = 38 :: r → GoodR r) ?_ ?_ ?_ ?_ l.length l (Nat.le_refl _)
  · intro i r h; rw [escQ_nil] at h; simp at h
  · rintro rfl r ih
    rw [escQ_quote]
    exact good_app (.inr (.inr (.inr (.inr rfl)))) ih
  · intro l t n h ih
    rw [escQ_some h]
    obtain ⟨r, ⟨rfl, rfl, rfl⟩ | ⟨rfl, rfl, rfl⟩ | ⟨rfl, rfl, rfl⟩ | ⟨rfl, rfl, rfl⟩⟩ := look_forms h
    · exact good_app (.inl rfl) ih
    · exact good_app (.inr (.inl rfl)) ih
    · exact good_app (.inr (.inr (.inl rfl))) ih
    · exact good_app (.inr (.inr (.inr (.inl rfl)))) ih
  · intro c r h hq ih i x hx
    rw [escQ_none h hq] at hx
    cases i with
    | zero => injection hx with hx _; exact absurd hx (look_off38 h).1
    | succ i => exact ih i x hx
theorem esc_len (q : Bool) (l : List UInt8) : (escQ q l).length ≤ 6 * l.length := by
  refine esc_ind q (P := fun l => (escQ q l).length ≤ 6 * l.length) ?_ ?_ ?_ ?_ l.length l (Nat.le_refl _)
  · rw [escQ_nil]; exact Nat.le_refl _
  · rintro rfl r ih
    rw [escQ_quote, List.length_append, show quT.length = 6 from rfl, List.length_cons]; omega
  · intro l t n h ih
    have hp := lookL_some h
    rw [List.length_drop] at ih
    rw [escQ_some h, List.length_append]; omega
  · intro c r h hq ih
    rw [escQ_none h hq, List.length_cons, List.length_cons]; omega
/-! ### strings.ReplaceAll of one sign -/
theorem repK_one (c : UInt8) (new : List UInt8) : ∀ l : List UInt8, Lib.replaceK [c] new (Lib.count l [c]) l = l.flatMap (fun x => if x = c then new else [x])
  | [] => by
    rw [Lib.count_one]
    rfl
  | b :: r => by
    have ih := repK_one c new r
    by_cases hb : b = c
    · subst hb
      rw [Lib.count_cons_eq, Nat.add_comm, Lib.replaceK_hit [b] new _ _ 0 (by rw [Lib.index_one]; simp [Lib.indexByte])]
      rw [List.flatMap_cons, if_pos rfl]
      show [] ++ new ++ Lib.replaceK [b] new (Lib.count r [b]) r = _
      rw [ih, List.nil_append]
    · rw [Lib.count_cons_ne b c r hb, List.flatMap_cons, if_neg hb, ← ih]
      cases hn : Lib.count r [c] with
      | zero => rfl
      | succ k =>
        obtain ⟨i, hi⟩ := Lib.index_of_count (s := r) (old := [c]) (by rw [hn]; exact Nat.succ_pos _)
        have hi2 : Lib.index (b :: r) [c] = ((i + 1 : Nat) : Int) := by
          rw [Lib.index_one] at hi ⊢
          have h1 : (b == c) = false := by simp [hb]
          have h2 : ((i : Int) == -1) = false := by rw [beq_eq_false_iff_ne]; omega
          simp [Lib.indexByte, h1, hi, h2]
        rw [Lib.replaceK_hit [c] new k _ _ hi2, Lib.replaceK_hit [c] new k _ _ hi]
        simp [Nat.add_right_comm]
theorem repAll_one (c : UInt8) (new : List UInt8) (hne : ([c] == new) = false) (l : List UInt8) : Lib.replaceAll l [c] new = l.flatMap (fun x => if x = c then new else [x]) := by
  unfold Lib.replaceAll Lib.replace Lib.replaceNum
  rw [hne, if_neg (by decide), if_pos (.inl (by decide)), repK_one]
theorem escQ_value (l : List UInt8) : escQ true l = Lib.replaceAll (escQ false l) [34] quT := by
  rw [repAll_one 34 quT (by decide)]
  refine esc_ind true (P := fun l => escQ true l = (escQ false l).flatMap (fun x => if x = 34 then quT else [x])) ?_ ?_ ?_ ?_ l.length l (Nat.le_refl _)
  · rw [escQ_nil, escQ_nil]; rfl
  · intro _ r ih
    rw [escQ_quote, escQ_none (q := false) (c := 34) (r := r) rfl (by intro e; cases e.1), List.flatMap_cons, if_pos rfl, ih]
  · intro l t n h ih
    rw [escQ_some h, escQ_some h, List.flatMap_append, ← ih]
    congr 1
    obtain ⟨r, ⟨rfl, rfl, rfl⟩ | ⟨rfl, rfl, rfl⟩ | ⟨rfl, rfl, rfl⟩ | ⟨rfl, rfl, rfl⟩⟩ := look_forms h <;> decide
  · intro c r h hq ih
    rw [escQ_none h hq, escQ_none h (by intro e; cases e.1), List.flatMap_cons, if_neg (by intro e; exact hq ⟨rfl, e⟩), ← ih]
    rfl
end Go.Proofs.YtmojckphfbcibaaGreatDoor
