/- What package addr reads, said on lists of bytes from left to right; what it writes is read. No statement is proved here. -/
import Derived.Test.YtcmmbceacjechaaGreatDoorBaseO
import Derived.Test.YtcmmbceacjechaaGreatDoorAddrO
import Derived.Test.YtcmmbceacjechaaGreatDoorBaseM
namespace Go.Proofs.YtcmmbceacjechaaGreatDoor
set_option linter.unusedVariables false
set_option linter.unusedSimpArgs false
def m0 : MSt := ⟨false, 0, false⟩
/-- the texts of the boxes -/
def boxF (m : MSt) (op : Bool) (cur : List UInt8) : List UInt8 → List (List UInt8)
  | [] => [cur]
  | c :: r =>
    if (takeB m c).1 ≠ 0 then boxF (takeB m c).2 op (cur ++ [c]) r
    else if c = 60 then boxF (takeB m c).2 true (cur ++ [c]) r
    else if c = 62 then boxF (takeB m c).2 false (cur ++ [c]) r
    else if c = 44 ∨ c = 59 then (if op then boxF (takeB m c).2 op (cur ++ [c]) r else cur :: boxF (takeB m c).2 false [] r)
    else boxF (takeB m c).2 op (cur ++ [c]) r
/-- what stands from a `<` to its `>` -/
def inF (m : MSt) : List UInt8 → List UInt8
  | [] => []
  | c :: r => if (takeB m c).1 = 0 ∧ c = 62 then [] else c :: inF (takeB m c).2 r
/-- what stands ahead of the first `<`, and behind it to its `>` -/
def angF (m : MSt) (cur : List UInt8) : List UInt8 → Option (List UInt8 × List UInt8)
  | [] => none
  | c :: r => if (takeB m c).1 = 0 ∧ c = 60 then some (cur, inF (takeB m c).2 r) else angF (takeB m c).2 (cur ++ [c]) r
def rmF (m : MSt) (st : RmSt) : List UInt8 → RmSt
  | [] => st
  | c :: r => rmF (takeB m c).2 (rmStep st c (takeB m c).1) r
theorem extract_snoc (s : ByteArray) (b k : Nat) (hb : b ≤ k) (hk : k < s.size) : (s.extract b (k + 1)).data.toList = (s.extract b k).data.toList ++ [s[k]] := by
  rw [extract_list, extract_list, take_snoc s k hk, List.drop_append_of_le_length (by rw [List.length_take, toList_length]; omega)]
theorem st_next (s : ByteArray) (k : Nat) (hk : k < s.size) : (takeB (stAt (s.data.toList.take k)) s[k]).2 = stAt (s.data.toList.take (k + 1)) := by rw [take_snoc s k hk, stAt_snoc]
theorem boxF_at (s : ByteArray) (n : Nat) : ∀ k, k + n = s.size →
    (boxL s).map (·.data.toList) = (bxAt s k).2.1.map (·.data.toList) ++ boxF (stAt (s.data.toList.take k)) (bxAt s k).1 (s.extract (bxAt s k).2.2 k).data.toList (s.data.toList.drop k) := by
  induction n with
  | zero =>
    intro k hk
    obtain rfl : k = s.size := by omega
    rw [drop_nil s s.size (Nat.le_refl _)]
    unfold boxL boxF
    rw [List.map_append]; rfl
  | succ n ih =>
    intro k hk
    have hlt : k < s.size := by omega
    rw [ih (k + 1) (by omega), drop_cons s k hlt, ← st_next s k hlt, bxAt_succ s k hlt]
    obtain ⟨d1, d2⟩ := bxAt_bd s k
    obtain ⟨⟨op, outs, bg⟩, hA⟩ : ∃ A, bxAt s k = A := ⟨_, rfl⟩
    rw [hA] at d1 d2 ⊢
    have e := extract_snoc s bg k d2 hlt
    have e2 : (s.extract (k + 1) (k + 1)).data.toList = [] := extract_none s (k + 1)
    unfold bxStep placeAt
    rw [boxF]
    obtain ⟨M, hM⟩ : ∃ M, takeB (stAt (s.data.toList.take k)) s[k] = M := ⟨_, rfl⟩
    rw [hM]
    by_cases h0 : M.1 ≠ 0
    · rw [if_pos h0, if_pos h0]; simp only [e]
    · rw [if_neg h0, if_neg h0]
      by_cases h1 : s[k] = 60
      · rw [if_pos h1, if_pos h1]; simp only [e]
      · rw [if_neg h1, if_neg h1]
        by_cases h2 : s[k] = 62
        · rw [if_pos h2, if_pos h2]; simp only [e]
        · rw [if_neg h2, if_neg h2]
          by_cases h3 : s[k] = 44 ∨ s[k] = 59
          · rw [if_pos h3, if_pos h3]
            cases op with
            | true => simp only [e, if_true]
            | false => simp only [e2, Bool.false_eq_true, if_false, List.map_append, List.map_cons, List.map_nil, List.append_assoc, List.singleton_append]
          · rw [if_neg h3, if_neg h3]; simp only [e]
theorem boxL_F (s : ByteArray) : (boxL s).map (·.data.toList) = boxF m0 false [] s.data.toList := by
  have := boxF_at s s.size 0 (Nat.zero_add _)
  rw [this]
  show [] ++ boxF (stAt []) false (s.extract 0 0).data.toList s.data.toList = _
  rw [extract_none]; rfl
theorem rmF_at (s : ByteArray) (n : Nat) : ∀ k, k + n = s.size → rmAt s s.size = rmF (stAt (s.data.toList.take k)) (rmAt s k) (s.data.toList.drop k) := by
  induction n with
  | zero =>
    intro k hk
    obtain rfl : k = s.size := by omega
    rw [drop_nil s s.size (Nat.le_refl _)]; rfl
  | succ n ih =>
    intro k hk
    have hlt : k < s.size := by omega
    rw [ih (k + 1) (by omega), drop_cons s k hlt, ← st_next s k hlt, rmAt_succ s k hlt]; rfl
theorem rmAt_F (s : ByteArray) : rmAt s s.size = rmF m0 (0, [], []) s.data.toList := rmF_at s s.size 0 (Nat.zero_add _)
/-- behind a `<` that was found -/
theorem inF_at (s : ByteArray) (b : Nat) (n : Nat) : ∀ k, k + n = s.size → b < k → (angAt s k) = (some b, none) →
    ∃ y, angAt s s.size = (some b, y) ∧ k ≤ y.getD s.size ∧ y.getD s.size ≤ s.size ∧ (s.extract k (y.getD s.size)).data.toList = inF (stAt (s.data.toList.take k)) (s.data.toList.drop k) := by
  induction n with
  | zero =>
    intro k hk hb ha
    obtain rfl : k = s.size := by omega
    refine ⟨none, ha, Nat.le_refl _, Nat.le_refl _, ?_⟩
    rw [drop_nil s s.size (Nat.le_refl _)]
    exact extract_none s s.size
  | succ n ih =>
    intro k hk hb ha
    have hlt : k < s.size := by omega
    have h1 := angAt_succ s k hlt
    rw [ha] at h1
    unfold angStep placeAt at h1
    rw [drop_cons s k hlt]
    unfold inF
    rw [st_next s k hlt]
    by_cases h0 : (takeB (stAt (s.data.toList.take k)) s[k]).1 = 0 ∧ s[k] = 62
    · rw [if_pos h0]
      rw [if_neg (by simpa using h0.1), if_neg (by rintro ⟨e, _⟩; rw [h0.2] at e; exact absurd e (by decide)), if_pos ⟨h0.2, by simp, rfl⟩] at h1
      -- the `>` is there; nothing changes any more
      have stay : ∀ m j, j + m = s.size → angAt s j = (some b, some k) → angAt s s.size = (some b, some k) := by
        intro m
        induction m with
        | zero => intro j hj h; obtain rfl : j = s.size := by omega
                  exact h
        | succ m ihm =>
          intro j hj h
          have hj' : j < s.size := by omega
          refine ihm (j + 1) (by omega) ?_
          rw [angAt_succ s j hj', h]
          unfold angStep
          split
          · rfl
          · rw [if_neg (by simp), if_neg (by simp)]
      refine ⟨some k, stay n (k + 1) (by omega) h1, Nat.le_refl _, Nat.le_of_lt hlt, extract_none s k⟩
    · rw [if_neg h0]
      have h2 : angAt s (k + 1) = (some b, none) := by
        rw [h1]
        by_cases hp : (takeB (stAt (s.data.toList.take k)) s[k]).1 ≠ 0
        · rw [if_pos hp]
        · rw [if_neg hp, if_neg (by simp), if_neg (by rintro ⟨e, _⟩; exact h0 ⟨Decidable.not_not.1 hp, e⟩)]
      obtain ⟨y, y1, y2, y3, y4⟩ := ih (k + 1) (by omega) (by omega) h2
      refine ⟨y, y1, by omega, y3, ?_⟩
      rw [← y4]
      rw [extract_list, extract_list]
      have : (s.data.toList.take (y.getD s.size)).drop k = s[k] :: (s.data.toList.take (y.getD s.size)).drop (k + 1) := by
        rw [List.drop_eq_getElem_cons (by rw [List.length_take, toList_length]; omega), List.getElem_take]; rfl
      exact this
theorem angF_at (s : ByteArray) (n : Nat) : ∀ k, k + n = s.size → angAt s k = (none, none) →
    (angF (stAt (s.data.toList.take k)) (s.data.toList.take k) (s.data.toList.drop k) = none ∧ ∃ y, angAt s s.size = (none, y)) ∨
    ∃ b y, angAt s s.size = (some b, y) ∧ angF (stAt (s.data.toList.take k)) (s.data.toList.take k) (s.data.toList.drop k) = some ((s.extract 0 b).data.toList, (s.extract (b + 1) (y.getD s.size)).data.toList) := by
  induction n with
  | zero =>
    intro k hk ha
    obtain rfl : k = s.size := by omega
    rw [drop_nil s s.size (Nat.le_refl _)]
    exact .inl ⟨rfl, _, ha⟩
  | succ n ih =>
    intro k hk ha
    have hlt : k < s.size := by omega
    have h1 := angAt_succ s k hlt
    rw [ha] at h1
    unfold angStep placeAt at h1
    rw [drop_cons s k hlt]
    unfold angF
    rw [st_next s k hlt]
    by_cases h0 : (takeB (stAt (s.data.toList.take k)) s[k]).1 = 0 ∧ s[k] = 60
    · rw [if_pos h0]
      rw [if_neg (by simpa using h0.1), if_pos ⟨h0.2, rfl⟩] at h1
      obtain ⟨y, y1, y2, y3, y4⟩ := inF_at s k n (k + 1) (by omega) (Nat.lt_succ_self _) h1
      refine .inr ⟨k, y, y1, ?_⟩
      rw [y4, extract_list, List.drop_zero]
    · rw [if_neg h0]
      have h2 : angAt s (k + 1) = (none, none) := by
        rw [h1]
        by_cases hp : (takeB (stAt (s.data.toList.take k)) s[k]).1 ≠ 0
        · rw [if_pos hp]
        · rw [if_neg hp, if_neg (by rintro ⟨e, _⟩; exact h0 ⟨Decidable.not_not.1 hp, e⟩), if_neg (by simp)]
      rw [← take_snoc s k hlt]
      exact ih (k + 1) (by omega) h2
theorem angOut_F (s : ByteArray) : angOut s = match angF m0 [] s.data.toList with | none => (⟨#[]⟩, ⟨#[]⟩, false) | some (a, b) => (str a, str b, true) := by
  have h := angF_at s s.size 0 (Nat.zero_add _) rfl
  change (angF m0 [] s.data.toList = none ∧ _) ∨ (∃ b y, _ ∧ angF m0 [] s.data.toList = _) at h
  unfold angOut
  rcases h with ⟨h1, y, h2⟩ | ⟨b, y, h2, h1⟩
  · rw [h1, h2]
  · rw [h1, h2]
    simp only [str_of]
/-- the name and the address as they stand -/
def nmF (l : List UInt8) : List UInt8 × List UInt8 :=
  match angF m0 [] l with
  | some (a, b) => ((if 0 < (readQ (tr4 a)).2 then (readQ (tr4 a)).1 else tr4 a), b)
  | none => (tr4 (unpairL (rmF m0 (0, [], []) l).2.2), (rmF m0 (0, [], []) l).2.1)
def readF (l : List UInt8) : BoxL := (decW false [] (nmF l).1, if goodL (tr4 (nmF l).2) then tr4 (nmF l).2 else [])
theorem nmOut_F (s : ByteArray) : nmOut s = nmF s.data.toList := by
  unfold nmOut nmF rmOut
  rw [angOut_F, rmAt_F]
  cases h : angF m0 [] s.data.toList with
  | none => rfl
  | some p => obtain ⟨a, b⟩ := p; simp only [if_true, str_toList]; rfl
theorem readBoxL_F (s : ByteArray) : readBoxL s = readF s.data.toList := by
  unfold readBoxL readF
  rw [nmOut_F]
def parseF (l : List UInt8) : List BoxL := ((boxF m0 false [] l).map readF).filter tells
theorem parseL_F (s : ByteArray) : parseL s = parseF s.data.toList := by
  unfold parseL parseF boxesOf
  rw [← boxL_F, List.map_map]
  congr 1
  exact List.map_congr_left (fun x _ => readBoxL_F x)
/-! ### each box that is read -/
theorem parse_each (l : List UInt8) : ∀ b ∈ parseF l, (goodL b.2 = true ∨ (b.2 = [] ∧ b.1 ≠ [])) ∧ validL b.1 = b.1 := by
  intro b hb
  unfold parseF at hb
  obtain ⟨h1, h2⟩ := List.mem_filter.1 hb
  obtain ⟨t, _, rfl⟩ := List.mem_map.1 h1
  refine ⟨?_, valid_whole _ (decW_whole _ _ _)⟩
  unfold readF at h2 ⊢
  simp only [] at h2 ⊢
  by_cases hg : goodL (tr4 (nmF t).2) = true
  · rw [if_pos hg]; exact .inl hg
  · rw [if_neg hg] at h2 ⊢
    refine .inr ⟨rfl, fun e => ?_⟩
    rw [e] at h2
    cases h2
/-! ### stretches -/
theorem take_calm {c : UInt8} (h : c ≠ 34) (h' : c ≠ 40) : takeB m0 c = (0, m0) := by
  unfold takeB
  rw [if_neg (by decide), if_neg (by decide), if_neg h, if_neg h']
/-- bytes that open nothing and are no sign of a list, as far as op says -/
def Calm (op : Bool) (c : UInt8) : Prop := c ≠ 34 ∧ c ≠ 40 ∧ c ≠ 60 ∧ c ≠ 62 ∧ (op = false → c ≠ 44 ∧ c ≠ 59)
theorem boxF_calm (op : Bool) (a : List UInt8) (h : ∀ c ∈ a, Calm op c) : ∀ cur r, boxF m0 op cur (a ++ r) = boxF m0 op (cur ++ a) r := by
  induction a with
  | nil => intro cur r; rw [List.append_nil]; rfl
  | cons c a ih =>
    intro cur r
    obtain ⟨h1, h2, h3, h4, h5⟩ := h c (List.mem_cons_self ..)
    rw [List.cons_append, boxF, take_calm h1 h2, if_neg (by simp), if_neg h3, if_neg h4]
    have e := ih (fun x hx => h x (List.mem_cons_of_mem _ hx)) (cur ++ [c]) r
    rw [List.append_assoc, List.singleton_append] at e
    cases op with
    | true =>
      simp only [if_true]
      rw [e]; exact ite_self _
    | false =>
      rw [if_neg (fun h => h.elim (h5 rfl).1 (h5 rfl).2)]
      exact e
theorem angF_calm (a : List UInt8) (h : ∀ c ∈ a, c ≠ 34 ∧ c ≠ 40 ∧ c ≠ 60) : ∀ cur r, angF m0 cur (a ++ r) = angF m0 (cur ++ a) r := by
  induction a with
  | nil => intro cur r; rw [List.append_nil]; rfl
  | cons c a ih =>
    intro cur r
    obtain ⟨h1, h2, h3⟩ := h c (List.mem_cons_self ..)
    rw [List.cons_append, angF, take_calm h1 h2, if_neg (by rintro ⟨_, e⟩; exact h3 e), ih (fun x hx => h x (List.mem_cons_of_mem _ hx)), List.append_assoc, List.singleton_append]
theorem inF_calm (a : List UInt8) (h : ∀ c ∈ a, c ≠ 34 ∧ c ≠ 40 ∧ c ≠ 62) : ∀ r, inF m0 (a ++ 62 :: r) = a := by
  induction a with
  | nil => intro r; rw [List.nil_append, inF, take_calm (by decide) (by decide), if_pos ⟨rfl, rfl⟩]
  | cons c a ih =>
    intro r
    obtain ⟨h1, h2, h3⟩ := h c (List.mem_cons_self ..)
    rw [List.cons_append, inF, take_calm h1 h2, if_neg (by rintro ⟨_, e⟩; exact h3 e), ih (fun x hx => h x (List.mem_cons_of_mem _ hx))]
theorem rmF_calm (a : List UInt8) (h : ∀ c ∈ a, c ≠ 34 ∧ c ≠ 40) : ∀ st, rmF m0 st a = (st.1, st.2.1 ++ a, st.2.2) := by
  induction a with
  | nil => intro st; rw [List.append_nil]; rfl
  | cons c a ih =>
    intro st
    obtain ⟨h1, h2⟩ := h c (List.mem_cons_self ..)
    rw [rmF, take_calm h1 h2, ih (fun x hx => h x (List.mem_cons_of_mem _ hx))]
    unfold rmStep
    rw [if_neg (by decide), if_pos (by decide), List.append_assoc, List.singleton_append]
/-- within quotes: what is escaped stays within -/
theorem take_q (c : UInt8) (h : c ≠ 34) (h' : c ≠ 92) : takeB ⟨true, 0, false⟩ c = (1, ⟨true, 0, false⟩) := by
  unfold takeB inPairB nextP
  rw [if_pos rfl]
  have e1 : (c == 92) = false := beq_eq_false_iff_ne.2 h'
  have e2 : (c != 34) = true := by rw [bne, beq_eq_false_iff_ne.2 h]; rfl
  simp [e1, e2]
theorem take_b : takeB ⟨true, 0, false⟩ 92 = (1, ⟨true, 0, true⟩) := rfl
theorem take_p (c : UInt8) : takeB ⟨true, 0, true⟩ c = (1, ⟨true, 0, false⟩) := by
  unfold takeB inPairB nextP; rw [if_pos rfl]; simp
theorem take_e : takeB ⟨true, 0, false⟩ 34 = (1, m0) := rfl
theorem take_o : takeB m0 34 = (1, ⟨true, 0, false⟩) := rfl
theorem boxF_esc (op : Bool) (x : List UInt8) : ∀ cur r, boxF ⟨true, 0, false⟩ op cur (escL x ++ r) = boxF ⟨true, 0, false⟩ op (cur ++ escL x) r := by
  induction x with
  | nil => intro cur r; show boxF _ op cur r = boxF _ op (cur ++ []) r; rw [List.append_nil]
  | cons c t ih =>
    intro cur r
    rw [show escL (c :: t) = escC c ++ escL t from rfl]
    by_cases h : c = 34 ∨ c = 92
    · rw [show escC c = [92, c] from if_pos h]
      show boxF _ op cur (92 :: c :: (escL t ++ r)) = _
      rw [boxF, take_b, if_pos (by decide), boxF, take_p, if_pos (by decide), ih]
      simp
    · rw [show escC c = [c] from if_neg h]
      show boxF _ op cur (c :: (escL t ++ r)) = _
      rw [boxF, take_q c (fun e => h (.inl e)) (fun e => h (.inr e)), if_pos (by decide), ih]
      simp
theorem boxF_quote (op : Bool) (x cur r : List UInt8) : boxF m0 op cur (quoteL x ++ r) = boxF m0 op (cur ++ quoteL x) r := by
  have e : quoteL x ++ r = 34 :: (escL x ++ 34 :: r) := by simp [quoteL]
  rw [e, boxF, take_o, if_pos (by decide), boxF_esc, boxF, take_e, if_pos (by decide)]
  simp [quoteL]
theorem angF_esc (x : List UInt8) : ∀ cur r, angF ⟨true, 0, false⟩ cur (escL x ++ r) = angF ⟨true, 0, false⟩ (cur ++ escL x) r := by
  induction x with
  | nil => intro cur r; show angF _ cur r = angF _ (cur ++ []) r; rw [List.append_nil]
  | cons c t ih =>
    intro cur r
    rw [show escL (c :: t) = escC c ++ escL t from rfl]
    by_cases h : c = 34 ∨ c = 92
    · rw [show escC c = [92, c] from if_pos h]
      show angF _ cur (92 :: c :: (escL t ++ r)) = _
      rw [angF, take_b, if_neg (by simp), angF, take_p, if_neg (by simp), ih]
      simp
    · rw [show escC c = [c] from if_neg h]
      show angF _ cur (c :: (escL t ++ r)) = _
      rw [angF, take_q c (fun e => h (.inl e)) (fun e => h (.inr e)), if_neg (by simp), ih]
      simp
theorem angF_quote (x cur r : List UInt8) : angF m0 cur (quoteL x ++ r) = angF m0 (cur ++ quoteL x) r := by
  have e : quoteL x ++ r = 34 :: (escL x ++ 34 :: r) := by simp [quoteL]
  rw [e, angF, take_o, if_neg (by simp), angF_esc, angF, take_e, if_neg (by simp)]
  simp [quoteL]
end Go.Proofs.YtcmmbceacjechaaGreatDoor
