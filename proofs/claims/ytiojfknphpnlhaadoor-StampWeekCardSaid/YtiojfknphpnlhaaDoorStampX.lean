/- What is written is read: a date's text, its tokens, what they are read to (plain). No statement is proved here. -/
import Derived.Test.YtiojfknphpnlhaaDoorStampY
namespace Go.Proofs.YtiojfknphpnlhaaDoor
set_option maxRecDepth 100000
open Go.RowKit
set_option linter.unusedVariables false

theorem dg_nat (n : Int) (h0 : 0 ≤ n) (h1 : n ≤ 9) : (dg n).toNat = 48 + n.toNat := by
  unfold dg; rw [UInt8.toNat_ofNat']; omega
/-- is a byte a digit? -/
def isDg (c : UInt8) : Prop := 48 ≤ c.toNat ∧ c.toNat ≤ 57
theorem dg_is (n : Int) (h0 : 0 ≤ n) (h1 : n ≤ 9) : isDg (dg n) := by unfold isDg; rw [dg_nat n h0 h1]; omega
theorem isDg_sep (c : UInt8) (h : isDg c) : isSep c = false := by
  unfold isSep isDg at *
  have : ∀ n : Nat, n < 48 → (c == UInt8.ofNat n) = false := fun n hn => by
    rw [beq_eq_false_iff_ne]; intro e; rw [e, UInt8.toNat_ofNat'] at h; omega
  rw [show (32 : UInt8) = UInt8.ofNat 32 from rfl, show (9 : UInt8) = UInt8.ofNat 9 from rfl, show (44 : UInt8) = UInt8.ofNat 44 from rfl, this 32 (by omega), this 9 (by omega), this 44 (by omega)]; rfl
theorem isDg_low (c : UInt8) (h : isDg c) : lowC c = c := by
  rcases lowC_case c with ⟨h1, _, _⟩ | ⟨_, h2⟩
  · unfold isDg at h; omega
  · exact h2
def allDg (l : List UInt8) : Prop := ∀ c ∈ l, isDg c
theorem allDg_sep {l : List UInt8} (h : allDg l) : l.all (fun c => !isSep c) = true := by
  rw [List.all_eq_true]; intro c hc; rw [isDg_sep c (h c hc)]; rfl
theorem allDg_low {l : List UInt8} (h : allDg l) : lowL l = l := by
  unfold lowL
  conv => rhs; rw [← List.map_id l]
  exact List.map_congr_left fun c hc => isDg_low c (h c hc)
theorem allDg_dig {l : List UInt8} (h : allDg l) : digB l = true := by
  unfold digB; rw [List.all_eq_true]; intro c hc
  have := h c hc; unfold isDg at this
  rw [decide_eq_true this.1, decide_eq_true this.2]; rfl
theorem allDg_rem {l : List UInt8} (h : allDg l) : notRem l = true := by
  cases l with
  | nil => rfl
  | cons a r =>
    have := h a (List.mem_cons_self ..)
    show (!(a == 40)) = true
    rw [show (a == 40) = false from beq_eq_false_iff_ne.2 (fun e => by subst e; unfold isDg at this; revert this; decide)]; rfl
theorem two_dg (n : Int) (h0 : 0 ≤ n) (h1 : n ≤ 99) : allDg (two n) := by
  intro c hc
  simp only [two, List.mem_cons, List.not_mem_nil, or_false] at hc
  rcases hc with rfl | rfl
  · exact dg_is _ (by omega) (by omega)
  · exact dg_is _ (by omega) (by omega)
theorem four_dg (n : Int) (h0 : 0 ≤ n) (h1 : n ≤ 9999) : allDg (four n) := by
  intro c hc
  simp only [four, List.mem_cons, List.not_mem_nil, or_false] at hc
  rcases hc with rfl | rfl | rfl | rfl
  · exact dg_is _ (by omega) (by omega)
  · exact dg_is _ (by omega) (by omega)
  · exact dg_is _ (by omega) (by omega)
  · exact dg_is _ (by omega) (by omega)
theorem two_val (n : Int) (h0 : 0 ≤ n) (h1 : n ≤ 99) : valL (two n) = n := by
  simp only [two, valL, List.foldl_cons, List.foldl_nil, dg_nat (n / 10) (by omega) (by omega), dg_nat (n % 10) (by omega) (by omega)]
  omega
theorem four_val (n : Int) (h0 : 0 ≤ n) (h1 : n ≤ 9999) : valL (four n) = n := by
  simp only [four, valL, List.foldl_cons, List.foldl_nil, dg_nat (n / 1000) (by omega) (by omega), dg_nat (n / 100 % 10) (by omega) (by omega), dg_nat (n / 10 % 10) (by omega) (by omega), dg_nat (n % 10) (by omega) (by omega)]
  omega
theorem two_short (n : Int) (h0 : 0 ≤ n) (h1 : n ≤ 99) : shortB (two n) = true := by
  unfold shortB numB; rw [allDg_dig (two_dg n h0 h1)]; rfl
theorem four_year (y : Int) (h0 : 0 ≤ y) (h1 : y ≤ 9999) : yearV (four y) = some y := by
  unfold yearV numB; rw [allDg_dig (four_dg y h0 h1), four_val y h0 h1]; rfl
theorem two_below (n k : Int) (h0 : 0 ≤ n) (h1 : n < k) (h2 : k ≤ 100) : belowB (two n) k = true := by
  unfold belowB; rw [allDg_dig (two_dg n h0 (by omega)), two_val n h0 (by omega), decide_eq_true h1]; rfl
theorem clock_two (h m s : Int) (h0 : 0 ≤ h) (h1 : h < 24) (m0 : 0 ≤ m) (m1 : m < 60) (s0 : 0 ≤ s) (s1 : s < 60) : clockV (two h) (two m) (two s) = some (h * 3600 + m * 60 + s) := by
  unfold clockV clockB clockZ
  rw [two_below h 24 h0 h1 (by omega), two_below m 60 m0 m1 (by omega), two_below s 60 s0 s1 (by omega), two_val h h0 (by omega), two_val m m0 (by omega), two_val s s0 (by omega)]
  rfl
theorem timeL_val (t : Int) (h0 : 0 ≤ t) (h1 : t < 86400) : timeV (timeL t) = some t := by
  have h := clock_two (t / 3600) (t / 60 % 60) (t % 60) (by omega) (by omega) (by omega) (by omega) (by omega) (by omega)
  rw [show t / 3600 * 3600 + t / 60 % 60 * 60 + t % 60 = t by omega] at h
  exact h
theorem monUp_val (m : Int) (h0 : 1 ≤ m) (h1 : m ≤ 12) : monV (lowL (monUp m)) = m ∧ (lowL (monUp m)).all (fun c => !isSep c) = true ∧ notRem (lowL (monUp m)) = true ∧ lowL (monUp m) ≠ [] := by
  obtain rfl | rfl | rfl | rfl | rfl | rfl | rfl | rfl | rfl | rfl | rfl | rfl : m = 1 ∨ m = 2 ∨ m = 3 ∨ m = 4 ∨ m = 5 ∨ m = 6 ∨ m = 7 ∨ m = 8 ∨ m = 9 ∨ m = 10 ∨ m = 11 ∨ m = 12 := by omega
  all_goals decide +kernel
theorem dayUp_val (q : Int) : isDayN (lowL (dayUp q)) = true ∧ (lowL (dayUp q)).all (fun c => !isSep c) = true ∧ notRem (lowL (dayUp q)) = true ∧ lowL (dayUp q) ≠ [] := by
  unfold dayUp
  obtain ⟨k, hk⟩ : ∃ k, k = (q % 7).toNat := ⟨_, rfl⟩
  rw [← hk]
  obtain rfl | rfl | rfl | rfl | rfl | rfl | rfl : k = 0 ∨ k = 1 ∨ k = 2 ∨ k = 3 ∨ k = 4 ∨ k = 5 ∨ k = 6 := by omega
  all_goals decide +kernel
theorem timeL_facts (t : Int) (h0 : 0 ≤ t) (h1 : t < 86400) : lowL (timeL t) = timeL t ∧ (timeL t).all (fun c => !isSep c) = true ∧ notRem (timeL t) = true ∧ timeL t ≠ [] := by
  have a := two_dg (t / 3600) (by omega) (by omega)
  have b := two_dg (t / 60 % 60) (by omega) (by omega)
  have c := two_dg (t % 60) (by omega) (by omega)
  refine ⟨?_, ?_, ?_, by simp [timeL, two]⟩
  · have la := allDg_low a
    have lb := allDg_low b
    have lc := allDg_low c
    unfold lowL at *
    unfold timeL
    simp only [List.map_append, List.map_cons, la, lb, lc]
    rfl
  · unfold timeL
    simp only [List.all_append, List.all_cons, allDg_sep a, allDg_sep b, allDg_sep c]; rfl
  · have : notRem (two (t / 3600)) = true := allDg_rem a
    exact this
theorem lowL_app (a b : List UInt8) : lowL (a ++ b) = lowL a ++ lowL b := by simp [lowL]
theorem lowL_cons (a : UInt8) (b : List UInt8) : lowL (a :: b) = lowC a :: lowL b := rfl
/-- the tokens of what is written, whatever stands behind its time -/
theorem toks_text (q y m d t : Int) (Z : List UInt8) (T : List (List UInt8)) (hm : MayD y m d) (t0 : 0 ≤ t) (t1 : t < 86400) (hZ : tokB [] (timeL t ++ lowL Z) = timeL t :: T) :
    toksL (dateL q y m d ++ [32] ++ timeL t ++ Z) = lowL (dayUp q) :: two d :: lowL (monUp m) :: four y :: timeL t :: T.takeWhile notRem := by
  obtain ⟨y0, y1, m0, m1, d0, d1⟩ := hm
  have hdm := dim_bd y m
  obtain ⟨_, a1, a2, a3⟩ := dayUp_val q
  obtain ⟨_, b1, b2, b3⟩ := monUp_val m m0 m1
  obtain ⟨c0, c1, c2, c3⟩ := timeL_facts t t0 t1
  have dd := two_dg d (by omega) (by omega)
  have yy := four_dg y (by omega) (by omega)
  unfold toksL dateL
  simp only [lowL_app, lowL_cons, allDg_low dd, allDg_low yy, c0, List.append_assoc, show lowC 44 = 44 from by decide, show lowC 32 = 32 from by decide, List.cons_append, List.nil_append]
  rw [tokB_word _ 44 _ a1 a3 rfl, tokB_sep0 32 _ rfl, tokB_word _ 32 _ (allDg_sep dd) (by simp [two]) rfl, tokB_word _ 32 _ b1 b3 rfl, tokB_word _ 32 _ (allDg_sep yy) (by simp [four]) rfl, hZ]
  rw [List.takeWhile_cons, a2, if_pos rfl, List.takeWhile_cons, allDg_rem dd, if_pos rfl, List.takeWhile_cons, b2, if_pos rfl, List.takeWhile_cons, allDg_rem yy, if_pos rfl, List.takeWhile_cons, c2, if_pos rfl]
theorem day_text (y m d : Int) (hm : MayD y m d) : dayV (two d) (lowL (monUp m)) (four y) = some (daysZ y m d) := by
  have hm' := hm
  obtain ⟨y0, y1, m0, m1, d0, d1⟩ := hm
  have hdm := dim_bd y m
  unfold dayV
  rw [two_short d (by omega) (by omega), four_year y (by omega) y1, (monUp_val m m0 m1).1, two_val d (by omega) (by omega)]
  simp [mayB_iff.2 hm']
/-- what is written, with a zone behind it, is read -/
theorem parse_zone (q y m d t : Int) (z : List UInt8) (k : Int) (hm : MayD y m d) (hq : daysZ y m d = q) (t0 : 0 ≤ t) (t1 : t < 86400) (hz : z.all (fun c => !isSep c) = true) (hz0 : z ≠ []) (hzl : lowL z = z) (hzr : notRem z = true) (hzv : zoneV z = some k) :
    parseO (dateL q y m d ++ [32] ++ timeL t ++ 32 :: z) = some (q * 86400 + t - k) := by
  obtain ⟨c0, c1, c2, c3⟩ := timeL_facts t t0 t1
  unfold parseO
  rw [toks_text q y m d t (32 :: z) [z] hm t0 t1 (by
    rw [lowL_cons, hzl, show lowC 32 = 32 from by decide, tokB_word _ 32 _ c1 c3 rfl, tokB_last z hz hz0])]
  rw [List.takeWhile_cons, hzr, if_pos rfl, List.takeWhile_nil, dropDay, (dayUp_val q).1, if_pos rfl]
  show fin (dayV (two d) (lowL (monUp m)) (four y)) (timeV (timeL t)) (zoneV z) = _
  rw [day_text y m d hm, timeL_val t t0 t1, hzv, hq]; rfl
theorem parse_bare (q y m d t : Int) (hm : MayD y m d) (hq : daysZ y m d = q) (t0 : 0 ≤ t) (t1 : t < 86400) :
    parseO (dateL q y m d ++ [32] ++ timeL t) = some (q * 86400 + t) := by
  obtain ⟨c0, c1, c2, c3⟩ := timeL_facts t t0 t1
  have h := toks_text q y m d t [] [] hm t0 t1 (by
    rw [show lowL [] = [] from rfl, List.append_nil, tokB_last _ c1 c3])
  rw [List.append_nil] at h
  unfold parseO
  rw [h, List.takeWhile_nil, dropDay, (dayUp_val q).1, if_pos rfl]
  show fin (dayV (two d) (lowL (monUp m)) (four y)) (timeV (timeL t)) (some 0) = _
  rw [day_text y m d hm, timeL_val t t0 t1, hq]
  show some (q * 86400 + t - 0) = _
  rw [Int.sub_zero]
theorem parse_text (q y m d t : Int) (hm : MayD y m d) (hq : daysZ y m d = q) (t0 : 0 ≤ t) (t1 : t < 86400) : parseO (textL q y m d t) = some (q * 86400 + t) := by
  have h := parse_zone q y m d t [43, 48, 48, 48, 48] 0 hm hq t0 t1 (by decide) (by decide) (by decide) (by decide) (by decide +kernel)
  rw [Int.sub_zero] at h
  rw [← h]; rfl
/-- a zone of a sign and four digits -/
theorem zone_two (g : UInt8) (h m : Int) (h0 : 0 ≤ h) (h1 : h < 24) (m0 : 0 ≤ m) (m1 : m < 60) (hg : g = 43 ∨ g = 45) :
    zoneV (g :: two h ++ two m) = some (if g = 43 then h * 3600 + m * 60 else -(h * 3600 + m * 60)) := by
  have hc := clock_two h m 0 h0 h1 m0 m1 (by decide) (by decide)
  have hl : zonNam.lookup (g :: two h ++ two m) = none := by
    have hlen : (g :: two h ++ two m).length = 5 := rfl
    have : ∀ (L : List (List UInt8 × Int)), (∀ x ∈ L, x.1.length ≠ 5) → L.lookup (g :: two h ++ two m) = none := by
      intro L
      induction L with
      | nil => intro _; rfl
      | cons x r ih =>
        intro hx
        obtain ⟨a, b⟩ := x
        rw [List.lookup]
        have hne : ((g :: two h ++ two m) == a) = false := by
          rw [beq_eq_false_iff_ne]; intro e
          exact hx (a, b) (List.mem_cons_self ..) (by rw [← e]; exact hlen)
        rw [hne]; exact ih (fun x hx' => hx x (List.mem_cons_of_mem _ hx'))
    exact this zonNam (by decide)
  unfold zoneV
  rw [hl]
  show signV (g :: two h ++ two m) = _
  have h2 : (two 0 : List UInt8) = [48, 48] := by decide
  rw [h2] at hc
  rcases hg with rfl | rfl
  · show (if (43 : UInt8) = 43 then clockV (two h) (two m) [48, 48] else if (43 : UInt8) = 45 then (clockV (two h) (two m) [48, 48]).map (fun x => -x) else none) = _
    rw [if_pos rfl, hc, if_pos rfl, Int.add_zero]
  · show (if (45 : UInt8) = 43 then clockV (two h) (two m) [48, 48] else if (45 : UInt8) = 45 then (clockV (two h) (two m) [48, 48]).map (fun x => -x) else none) = _
    rw [if_neg (by decide), if_pos rfl, hc, if_neg (by decide), Int.add_zero]; rfl
end Go.Proofs.YtiojfknphpnlhaaDoor
