/- PURE: the reference of layer 8 reads what addr reads. No statement is proved here. -/
import Derived.Test.YtcmmbceacjechaaGreatDoorRef08C
namespace Go.Proofs.YtcmmbceacjechaaGreatDoor
open Go.RowKit
set_option linter.unusedVariables false
set_option linter.unusedSimpArgs false
set_option maxRecDepth 100000
/-! ### remarks -/
/-- is a remark closed -/
def clR : Nat → List UInt8 → Bool
  | _, [] => false
  | d, [c] => c == 41 && d == 1
  | d, c :: x :: r => if c = 92 then clR d r else if c = 40 then clR (d + 1) (x :: r) else if c = 41 then (if d = 1 then true else clR (d - 1) (x :: r)) else clR d (x :: r)
theorem wi_p (d : Nat) (x : UInt8) (r : List UInt8) : wi d (92 :: x :: r) = 2 + wi d r := by rw [wi, if_pos rfl]
theorem cl_e (d : Nat) (r : List UInt8) : clR d (92 :: r) = clR d (r.drop 1) := by
  cases r with
  | nil => rfl
  | cons x r => rw [clR, if_pos rfl]; rfl
theorem cl_i (d : Nat) (r : List UInt8) : clR d (40 :: r) = clR (d + 1) r := by
  cases r with
  | nil => rfl
  | cons x r => rw [clR, if_neg (by decide), if_pos rfl]
theorem cl_x (r : List UInt8) : clR 1 (41 :: r) = true := by
  cases r with
  | nil => rfl
  | cons x r => rw [clR, if_neg (by decide), if_neg (by decide), if_pos rfl, if_pos rfl]
theorem cl_c (d : Nat) (hd : d ≠ 1) (r : List UInt8) : clR d (41 :: r) = clR (d - 1) r := by
  cases r with
  | nil => show ((41 : UInt8) == 41 && d == 1) = false; rw [show (d == 1) = false from beq_eq_false_iff_ne.2 hd]; rfl
  | cons x r => rw [clR, if_neg (by decide), if_neg (by decide), if_pos rfl, if_neg hd]
theorem cl_o (d : Nat) (r : List UInt8) {c : UInt8} (h : c ≠ 92) (h2 : c ≠ 40) (h3 : c ≠ 41) : clR d (c :: r) = clR d r := by
  cases r with
  | nil => show (c == 41 && d == 1) = false; rw [show (c == 41) = false from beq_eq_false_iff_ne.2 h3]; rfl
  | cons x r => rw [clR, if_neg h, if_neg h2, if_neg h3]
/-- a remark's machine behind a stretch of it -/
def mvR (m : MSt) (l : List UInt8) : MSt := l.foldl (fun m c => (takeB m c).2) m
theorem mvR_cons (m : MSt) (c : UInt8) (l : List UInt8) : mvR m (c :: l) = mvR (takeB m c).2 l := rfl
theorem rmF_cons (m : MSt) (st : RmSt) (c : UInt8) (r : List UInt8) : rmF m st (c :: r) = rmF (takeB m c).2 (rmStep st c (takeB m c).1) r := by rw [rmF]
theorem rmStep_in (sg : Nat) (rest said : List UInt8) (c : UInt8) : rmStep (sg, rest, said) c 2 = (sg, rest, said ++ if sg = 1 then [c] else []) := by
  unfold rmStep
  rw [if_neg (by decide), if_neg (by decide)]
  by_cases h : sg = 1
  · simp [h]
  · simp [h]
theorem rmStep_sign (sg : Nat) (rest said : List UInt8) (c : UInt8) : rmStep (sg, rest, said) c 3 = (sg + 1, rest, said) := by
  unfold rmStep; rw [if_pos rfl]
theorem app_if (said a b : List UInt8) (sg : Nat) : (said ++ if sg = 1 then a else []) ++ (if sg = 1 then b else []) = said ++ if sg = 1 then a ++ b else [] := by
  by_cases h : sg = 1 <;> simp [h]
/-- what is read in a remark -/
theorem rm_in (n : Nat) : ∀ (d : Nat) (t : List UInt8) (sg : Nat) (rest said : List UInt8), t.length ≤ n → 1 ≤ d →
    (clR d t = true → rmF (stS 2 d) (sg, rest, said) t = rmF m0 (sg + 1, rest, said ++ if sg = 1 then t.take (wi d t - 1) else []) (t.drop (wi d t)) ∧ mvR (stS 2 d) (t.take (wi d t)) = m0 ∧ 1 ≤ wi d t ∧ ∀ e, wi d (t.take (wi d t) ++ e) = wi d t) ∧
    (clR d t = false → rmF (stS 2 d) (sg, rest, said) t = (sg, rest, said ++ if sg = 1 then t else []) ∧ wi d t = t.length ∧ wi d (t ++ [120]) = t.length + 1) := by
  induction n with
  | zero =>
    intro d t sg rest said hl hd
    have : t = [] := List.eq_nil_of_length_eq_zero (by omega)
    subst this
    refine ⟨fun h => (by cases h), fun _ => ⟨?_, rfl, rfl⟩⟩
    rw [rmF]; simp
  | succ n ih =>
    intro d t sg rest said hl hd
    cases t with
    | nil =>
      refine ⟨fun h => (by cases h), fun _ => ⟨?_, rfl, rfl⟩⟩
      rw [rmF]; simp
    | cons c r =>
      simp only [List.length_cons] at hl
      by_cases h92 : c = 92
      · subst h92
        have e1 : rmF (stS 2 d) (sg, rest, said) (92 :: r) = rmF ⟨false, d, true⟩ (sg, rest, said ++ if sg = 1 then [92] else []) r := by
          rw [rmF_cons, take2_e d hd rfl]; simp only; rw [rmStep_in]
        cases r with
        | nil =>
          refine ⟨fun h => absurd h (by rw [cl_e]; exact fun e => by cases e), fun _ => ⟨?_, rfl, ?_⟩⟩
          · rw [e1, rmF]
          · show wi d (92 :: 120 :: []) = 2
            rw [wi_p]; rfl
        | cons x r =>
          simp only [List.length_cons] at hl
          rw [wi_p, show clR d (92 :: x :: r) = clR d r by rw [cl_e]; rfl]
          have e2 : ∀ S, rmF ⟨false, d, true⟩ S (x :: r) = rmF (stS 2 d) (rmStep S x 2) r := fun S => by rw [rmF_cons, take2_p d hd x]
          obtain ⟨i1, i2⟩ := ih d r sg rest (said ++ if sg = 1 then [92, x] else []) (by omega) hd
          have e3 : rmF (stS 2 d) (sg, rest, said) (92 :: x :: r) = rmF (stS 2 d) (sg, rest, said ++ if sg = 1 then [92, x] else []) r := by
            rw [e1, e2, rmStep_in, app_if]; rfl
          refine ⟨fun h => ?_, fun h => ?_⟩
          · obtain ⟨j1, j2, j3, j4⟩ := i1 h
            rw [show 2 + wi d r = (wi d r + 1) + 1 by omega]
            refine ⟨?_, ?_, by omega, fun e => ?_⟩
            · rw [e3, j1, app_if]
              simp only [List.drop_succ_cons]
              rw [show wi d r + 1 + 1 - 1 = (wi d r - 1 + 1) + 1 by omega]
              simp only [List.take_succ_cons]
              rfl
            · simp only [List.take_succ_cons]
              rw [mvR_cons, mvR_cons, take2_e d hd rfl]
              simp only
              rw [take2_p d hd x]
              exact j2
            · simp only [List.take_succ_cons, List.cons_append]
              rw [wi_p, j4 e]; omega
          · obtain ⟨j1, j2, j3⟩ := i2 h
            refine ⟨?_, by rw [j2]; simp; omega, ?_⟩
            · rw [e3, j1, app_if]; rfl
            · simp only [List.cons_append]
              rw [wi_p, j3]; simp; omega
      · by_cases h40 : c = 40
        · subst h40
          rw [cl_i, wi_i]
          have e1 : rmF (stS 2 d) (sg, rest, said) (40 :: r) = rmF (stS 2 (d + 1)) (sg, rest, said ++ if sg = 1 then [40] else []) r := by
            rw [rmF_cons, take2_i d hd rfl]; simp only; rw [rmStep_in]
          obtain ⟨i1, i2⟩ := ih (d + 1) r sg rest (said ++ if sg = 1 then [40] else []) (by omega) (by omega)
          refine ⟨fun h => ?_, fun h => ?_⟩
          · obtain ⟨j1, j2, j3, j4⟩ := i1 h
            rw [show 1 + wi (d + 1) r = wi (d + 1) r + 1 by omega]
            refine ⟨?_, ?_, by omega, fun e => ?_⟩
            · rw [e1, j1, app_if]
              simp only [List.drop_succ_cons]
              rw [show wi (d + 1) r + 1 - 1 = (wi (d + 1) r - 1) + 1 by omega]
              simp only [List.take_succ_cons]
              rfl
            · simp only [List.take_succ_cons]
              rw [mvR_cons, take2_i d hd rfl]
              exact j2
            · simp only [List.take_succ_cons, List.cons_append]
              rw [wi_i, j4 e]; omega
          · obtain ⟨j1, j2, j3⟩ := i2 h
            refine ⟨?_, by rw [j2]; simp; omega, ?_⟩
            · rw [e1, j1, app_if]; rfl
            · simp only [List.cons_append]
              rw [wi_i, j3]; simp; omega
        · by_cases h41 : c = 41
          · subst h41
            by_cases hd1 : d = 1
            · subst hd1
              rw [cl_x, wi_x]
              refine ⟨fun _ => ⟨?_, ?_, Nat.le_refl _, fun e => ?_⟩, fun h => (by cases h)⟩
              · rw [rmF_cons, take2_x rfl]
                simp only
                rw [rmStep_sign]
                simp only [List.drop_succ_cons, List.drop_zero, Nat.sub_self, List.take_zero, ite_self, List.append_nil]
                rfl
              · simp only [List.take_succ_cons, List.take_zero]
                rw [mvR_cons, take2_x rfl]; rfl
              · simp only [List.take_succ_cons, List.take_zero, List.cons_append]
                rw [wi_x]
            · rw [cl_c d hd1, wi_c d hd1]
              have e1 : rmF (stS 2 d) (sg, rest, said) (41 :: r) = rmF (stS 2 (d - 1)) (sg, rest, said ++ if sg = 1 then [41] else []) r := by
                rw [rmF_cons, take2_c d (by omega) rfl]; simp only; rw [rmStep_in]
              obtain ⟨i1, i2⟩ := ih (d - 1) r sg rest (said ++ if sg = 1 then [41] else []) (by omega) (by omega)
              refine ⟨fun h => ?_, fun h => ?_⟩
              · obtain ⟨j1, j2, j3, j4⟩ := i1 h
                rw [show 1 + wi (d - 1) r = wi (d - 1) r + 1 by omega]
                refine ⟨?_, ?_, by omega, fun e => ?_⟩
                · rw [e1, j1, app_if]
                  simp only [List.drop_succ_cons]
                  rw [show wi (d - 1) r + 1 - 1 = (wi (d - 1) r - 1) + 1 by omega]
                  simp only [List.take_succ_cons]
                  rfl
                · simp only [List.take_succ_cons]
                  rw [mvR_cons, take2_c d (by omega) rfl]
                  exact j2
                · simp only [List.take_succ_cons, List.cons_append]
                  rw [wi_c d hd1, j4 e]; omega
              · obtain ⟨j1, j2, j3⟩ := i2 h
                refine ⟨?_, by rw [j2]; simp; omega, ?_⟩
                · rw [e1, j1, app_if]; rfl
                · simp only [List.cons_append]
                  rw [wi_c d hd1, j3]; simp; omega
          · rw [cl_o d r h92 h40 h41, wi_o d r h92 h40 h41]
            have e1 : rmF (stS 2 d) (sg, rest, said) (c :: r) = rmF (stS 2 d) (sg, rest, said ++ if sg = 1 then [c] else []) r := by
              rw [rmF_cons, take2_o d hd h92 h40 h41]; simp only; rw [rmStep_in]
            obtain ⟨i1, i2⟩ := ih d r sg rest (said ++ if sg = 1 then [c] else []) (by omega) hd
            refine ⟨fun h => ?_, fun h => ?_⟩
            · obtain ⟨j1, j2, j3, j4⟩ := i1 h
              rw [show 1 + wi d r = wi d r + 1 by omega]
              refine ⟨?_, ?_, by omega, fun e => ?_⟩
              · rw [e1, j1, app_if]
                simp only [List.drop_succ_cons]
                rw [show wi d r + 1 - 1 = (wi d r - 1) + 1 by omega]
                simp only [List.take_succ_cons]
                rfl
              · simp only [List.take_succ_cons]
                rw [mvR_cons, take2_o d hd h92 h40 h41]
                exact j2
              · simp only [List.take_succ_cons, List.cons_append]
                rw [wi_o d _ h92 h40 h41, j4 e]; omega
            · obtain ⟨j1, j2, j3⟩ := i2 h
              refine ⟨?_, by rw [j2]; simp; omega, ?_⟩
              · rw [e1, j1, app_if]; rfl
              · simp only [List.cons_append]
                rw [wi_o d _ h92 h40 h41, j3]; simp; omega
/-- what stands in the first remark -/
theorem inR_take (t : List UInt8) : inR (t.take (wi 1 t)) = if clR 1 t = true then t.take (wi 1 t - 1) else t := by
  obtain ⟨h1, h2⟩ := rm_in t.length 1 t 0 [] [] (Nat.le_refl _) (Nat.le_refl _)
  have hle := wi_le t.length 1 t (Nat.le_refl _)
  cases hc : clR 1 t with
  | true =>
    obtain ⟨_, _, j3, j4⟩ := h1 hc
    rw [if_pos rfl]
    unfold inR
    rw [j4 [120], if_pos (by rw [List.length_take]; omega), List.dropLast_eq_take, List.length_take, List.take_take]
    congr 1; omega
  | false =>
    obtain ⟨_, j2, j3⟩ := h2 hc
    rw [if_neg (by decide), j2, List.take_length]
    unfold inR
    rw [j3, if_neg (by omega)]
/-! ### quotes -/
theorem qrd_clo (n : Nat) : ∀ (l : List UInt8) (e : Nat), l.length ≤ n → clo l = some e → (qrd false l).1 = unpairL (l.take e) := by
  induction n with
  | zero => intro l e hl h; have : l = [] := List.eq_nil_of_length_eq_zero (by omega); subst this; cases h
  | succ n ih =>
    intro l e hl h
    cases l with
    | nil => cases h
    | cons c r =>
      simp only [List.length_cons] at hl
      by_cases h34 : c = 34
      · rw [clo_q r h34] at h
        injection h with h
        subst h h34
        rw [qrd_cons7]
        show ([] : List UInt8) = unpairL []
        rw [unpairL]
      · by_cases h92 : c = 92
        · subst h92
          cases r with
          | nil => cases h
          | cons d r =>
            simp only [List.length_cons] at hl
            rw [clo, if_pos rfl] at h
            cases hr : clo r with
            | none => rw [hr] at h; cases h
            | some x =>
              rw [hr] at h
              simp only [Option.map, Option.some.injEq] at h
              subst h
              rw [qrd_cons7, qrd_cons7]
              simp only [List.take_succ_cons]
              rw [unpairL_pair, ← ih r x (by omega) hr]; rfl
        · rw [clo_o r h34 h92] at h
          cases hr : clo r with
          | none => rw [hr] at h; cases h
          | some x =>
            rw [hr] at h
            simp only [Option.map, Option.some.injEq] at h
            subst h
            have b34 : (c == 34) = false := beq_eq_false_iff_ne.2 h34
            have b92 : (c == 92) = false := beq_eq_false_iff_ne.2 h92
            rw [qrd_cons7, b34, b92]
            simp only [List.take_succ_cons]
            rw [unpairL_other _ _ h92, ← ih r x (by omega) hr]; rfl
/-- a quoted stretch that is not closed stays open -/
theorem open_stays (n : Nat) : ∀ l : List UInt8, l.length ≤ n → clo l = none → (mvR (stS 1 0) l).q = true := by
  induction n with
  | zero => intro l hl h; have : l = [] := List.eq_nil_of_length_eq_zero (by omega); subst this; rfl
  | succ n ih =>
    intro l hl h
    cases l with
    | nil => rfl
    | cons c r =>
      simp only [List.length_cons] at hl
      by_cases h34 : c = 34
      · rw [clo_q r h34] at h; cases h
      · by_cases h92 : c = 92
        · subst h92
          cases r with
          | nil => rfl
          | cons d r =>
            simp only [List.length_cons] at hl
            rw [clo, if_pos rfl] at h
            have hr : clo r = none := by cases hr : clo r with
              | none => rfl
              | some x => rw [hr] at h; cases h
            rw [mvR_cons, mvR_cons, take1_e 0 rfl]
            simp only
            rw [take1_p d]
            exact ih r (by omega) hr
        · rw [clo_o r h34 h92] at h
          have hr : clo r = none := by cases hr : clo r with
            | none => rfl
            | some x => rw [hr] at h; cases h
          rw [mvR_cons, take1_o 0 h92 h34]
          exact ih r (by omega) hr
theorem quote_on (l : List UInt8) : ∀ m : MSt, m.q = true → (∀ c ∈ l, c ≠ 34) → (mvR m l).q = true := by
  induction l with
  | nil => intro m h _; exact h
  | cons c r ih =>
    intro m h hc
    rw [mvR_cons]
    refine ih _ ?_ (fun x hx => hc x (List.mem_cons_of_mem _ hx))
    unfold takeB
    rw [if_pos h]
    have : (c != 34) = true := by rw [bne_iff_ne]; exact hc c (List.mem_cons_self ..)
    simp [this]
theorem calm_ws (l : List UInt8) (h : ∀ c ∈ l, c ≠ 34 ∧ c ≠ 40) : mvR m0 l = m0 := by
  induction l with
  | nil => rfl
  | cons c r ih =>
    obtain ⟨h1, h2⟩ := h c (List.mem_cons_self ..)
    rw [mvR_cons, take_calm h1 h2]
    exact ih (fun x hx => h x (List.mem_cons_of_mem _ hx))
theorem mvR_app (m : MSt) (a b : List UInt8) : mvR m (a ++ b) = mvR (mvR m a) b := by unfold mvR; rw [List.foldl_append]
theorem angF_state (l : List UInt8) : ∀ (m : MSt) (cur a b : List UInt8), angF m cur l = some (a, b) → ∃ n, a = cur ++ l.take n ∧ (takeB (mvR m (l.take n)) 60).1 = 0 := by
  induction l with
  | nil => intro m cur a b h; rw [angF] at h; cases h
  | cons c r ih =>
    intro m cur a b h
    rw [angF] at h
    split at h
    · rename_i hc
      injection h with h
      injection h with h1 h2
      refine ⟨0, by simp [h1], ?_⟩
      show (takeB m 60).1 = 0
      rw [← hc.2]; exact hc.1
    · obtain ⟨n, h1, h2⟩ := ih _ _ _ _ h
      refine ⟨n + 1, by rw [h1]; simp, ?_⟩
      rw [List.take_succ_cons, mvR_cons]; exact h2
theorem trP_parts (a : List UInt8) : ∃ u v, a = u ++ trP a ++ v ∧ (∀ c ∈ u, wsB c = true) ∧ ∀ c ∈ v, wsB c = true := by
  have e := trP_lr a
  have h1 : a = a.takeWhile wsB ++ left7 a := (List.takeWhile_append_dropWhile (p := wsB) (l := a)).symm
  have h2 : left7 a = right7 (left7 a) ++ ((left7 a).reverse.takeWhile wsB).reverse := by
    have := List.takeWhile_append_dropWhile (p := wsB) (l := (left7 a).reverse)
    have := congrArg List.reverse this
    rw [List.reverse_append, List.reverse_reverse] at this
    exact this.symm
  refine ⟨a.takeWhile wsB, ((left7 a).reverse.takeWhile wsB).reverse, ?_, fun c hc => ?_, fun c hc => ?_⟩
  · rw [e, List.append_assoc, ← h2, ← h1]
  · exact List.all_eq_true.1 List.all_takeWhile c hc
  · exact List.all_eq_true.1 List.all_takeWhile c (List.mem_reverse.1 hc)
theorem ws_no {c : UInt8} (h : wsB c = true) : c ≠ 34 ∧ c ≠ 40 := by
  refine u8_all (p := fun c => wsB c = true → c ≠ 34 ∧ c ≠ 40) (by decide +kernel) c h
theorem name_closed {l a b : List UInt8} (h : angF m0 [] l = some (a, b)) {r : List UInt8} (hr : trP a = 34 :: r) : ∃ e, clo r = some e := by
  obtain ⟨n, h1, h2⟩ := angF_state l m0 [] a b h
  rw [List.nil_append] at h1
  rw [← h1] at h2
  cases hc : clo r with
  | some e => exact ⟨e, rfl⟩
  | none =>
    exfalso
    obtain ⟨u, v, e, hu, hv⟩ := trP_parts a
    have hq : (mvR m0 a).q = true := by
      rw [e, mvR_app, mvR_app, calm_ws u (fun c hc => ws_no (hu c hc)), hr]
      refine quote_on v _ ?_ (fun c hc => (ws_no (hv c hc)).1)
      rw [mvR_cons]
      exact open_stays r.length r (Nat.le_refl _) hc
    unfold takeB at h2
    rw [if_pos hq] at h2
    cases h2
/-! ### a box -/
def boxR (l : List UInt8) : List UInt8 × List UInt8 :=
  match angF m0 [] l with
  | some (a, b) => (nameR a, trP b)
  | none => (decW false [] (trP (unpairL (rmF m0 (0, [], []) l).2.2)), trP (rmF m0 (0, [], []) l).2.1)
theorem boxR_read (l : List UInt8) : readF l = ((boxR l).1, if goodL (boxR l).2 then (boxR l).2 else []) := by
  unfold readF boxR nmF
  cases h : angF m0 [] l with
  | none => rfl
  | some p =>
    obtain ⟨a, b⟩ := p
    simp only
    have e : (if 0 < (readQ (tr4 a)).2 then (readQ (tr4 a)).1 else tr4 a) = quoR (trP a) := by
      show (if 0 < (readQ (trP a)).2 then (readQ (trP a)).1 else trP a) = _
      cases ht : trP a with
      | nil => rw [quoR]; rfl
      | cons c r =>
        rw [quoR]
        by_cases hc : c = 34
        · subst hc
          obtain ⟨e, he⟩ := name_closed h ht
          rw [if_pos rfl, he]
          simp only
          rw [← qrd_clo r.length r e (Nat.le_refl _) he]
          unfold readQ
          simp only [beq_self_eq_true, if_true]
          rw [if_pos (Nat.succ_pos _)]
        · rw [if_neg hc]
          have h0 : readQ (c :: r) = ([], 0) := by unfold readQ; simp [hc]
          rw [h0]
          exact if_neg (Nat.lt_irrefl 0)
    rw [e]; rfl
end Go.Proofs.YtcmmbceacjechaaGreatDoor
