/- WALKS of stamp.twoDigits, writeTime, date's closure, sort.Search with it, date. No statement is proved here. -/
import Derived.Test.YtiojfknphpnlhaaDoorStampA
import Derived.Test.YtiojfknphpnlhaaDoorIdxR
import Derived.Test.YtiojfknphpnlhaaDoorShelf
import Derived.Shelf.Strconv.Itoa3
import Derived.WalkSmall
import Derived.Deep.Cut
import Derived.Deep.RegionWith
import Derived.Deep.DeepMust
import Derived.Deep.RegionHeld3
namespace Go.Proofs.YtiojfknphpnlhaaDoor
open Go.RowKit
set_option linter.unusedVariables false
set_option linter.unusedSimpArgs false

theorem below_grown (B : Nat) (w : World) (q : Nat) (os : Array Obj) (hB : B ≤ w.heap.size) : Below B w (Go.Sort.grow (w.drewN q) os) :=
  ⟨rfl, rfl, rfl, by simp [Go.Sort.grow], fun i hi => by
    show ((w.drewN q).heap ++ os)[i]? = _
    rw [Array.getElem?_append_left (by show i < w.heap.size; omega)]
    rfl⟩
theorem cell_lt0 {w : World} {b o : Nat} {v : Value} (h : w.cell? ⟨b, o, none⟩ = some v) : b < w.heap.size := World.block_lt_of_cell? _ _ h
theorem EnvS.kept {w w' : World} (h : EnvS w) (hb : Below w.heap.size w w') : EnvS w' := by
  have k : ∀ {b o : Nat} {v : Value}, w.cell? ⟨b, o, none⟩ = some v → w'.cell? ⟨b, o, none⟩ = some v := fun {b o v} hc => (hb.cell (p := ⟨b, o, none⟩) (cell_lt0 hc)).trans hc
  refine ⟨fun j hj => k (h.len j hj), fun j hj => k (h.mon j hj), fun j hj => k (h.day j hj), fun j hj => ⟨k (h.zon j hj).1, k (h.zon j hj).2⟩, ?_, ?_⟩
  · have hg : Tryd.prog.globalNamed "internal/strconv.uint64pow10" = some 5 := by kernel_rfl
    have hc := h.pow.cell hg 0 (by rw [Lib.pow10Tab_length]; omega)
    exact var?_below hb hg (cell_lt0 hc) h.pow
  · obtain ⟨m, hm⟩ := h.max
    exact ⟨m, k hm⟩
theorem EnvS.drewN {w : World} (h : EnvS w) (n : Nat) : EnvS (w.drewN n) := h.kept ⟨rfl, rfl, rfl, Nat.le_refl _, fun _ _ => rfl⟩

theorem dec_one (n : Nat) (h : n < 10) : Lib.decDigits n = [UInt8.ofNat (48 + n)] := by rw [Lib.decDigits, dif_pos h]
theorem dec_more (n : Nat) (h : ¬ n < 10) : Lib.decDigits n = Lib.decDigits (n / 10) ++ [UInt8.ofNat (48 + n % 10)] := by rw [Lib.decDigits, dif_neg h]
theorem itoa_year (y : Int) (h0 : 1000 ≤ y) (h1 : y ≤ 9999) : Lib.itoa y = four y := by
  obtain ⟨n, rfl⟩ : ∃ n : Nat, y = n := ⟨y.toNat, by omega⟩
  rw [Lib.itoa, if_neg (by omega), show ((n : Int)).toNat = n by omega, dec_more n (by omega), dec_more (n / 10) (by omega), dec_more (n / 10 / 10) (by omega), dec_one (n / 10 / 10 / 10) (by omega)]
  unfold four dg
  rw [show ((n : Int) / 1000).toNat = n / 10 / 10 / 10 by omega, show ((n : Int) / 100 % 10).toNat = n / 10 / 10 % 10 by omega, show ((n : Int) / 10 % 10).toNat = n / 10 % 10 by omega, show ((n : Int) % 10).toNat = n % 10 by omega]
  rfl
theorem itoa1_any (n : Int) (S : ByteArray) (hS : S = str [dg n]) (w : World) (h0 : 0 ≤ n) (h1 : n < 10) :
    Calls Tryd.prog 52 #[.int .i64 n] w fun e w' => e = .returned (.string S) ∧ w' = w := by
  obtain ⟨k, rfl⟩ : ∃ k : Nat, n = k := ⟨n.toNat, by omega⟩
  refine (Tryd.strconv_Itoa_small k (by omega) w).mono ?_
  rintro e w1 ⟨rfl, rfl⟩
  refine ⟨?_, rfl⟩
  rw [hS, dec_one k (by omega)]
  unfold dg
  rw [show ((k : Int)).toNat = k by omega]
  rfl
theorem itoa4_any (y : Int) (S : ByteArray) (hS : S = str (four y)) (w : World) (hE : EnvS w) (h0 : 1000 ≤ y) (h1 : y ≤ 9999) :
    Calls Tryd.prog 52 #[.int .i64 y] w fun e w' => e = .returned (.string S) ∧ Below w.heap.size w w' := by
  refine (Tryd.strconv_Itoa y (by omega) (by omega) w hE.pow).mono ?_
  rintro e w1 ⟨rfl, k, os, rfl⟩
  exact ⟨by rw [itoa_year y h0 h1, hS]; rfl, below_grown _ _ _ _ (Nat.le_refl _)⟩
theorem two_size (n : Int) : (str (two n)).size = 2 := rfl
set_option maxHeartbeats 400000 in
theorem twoDigits_any (n : Int) (S : ByteArray) (hS : S = str (two n)) (w : World) (h0 : 0 ≤ n) (h1 : n < 100) :
    Calls Tryd.prog 51 #[.int .i64 n] w fun e w' => e = .returned (.string S) ∧ w' = w := by
  obtain ⟨A, hA⟩ : ∃ A, A = str [dg (n / 10)] := ⟨_, rfl⟩
  obtain ⟨B, hB⟩ : ∃ B, B = str [dg (n % 10)] := ⟨_, rfl⟩
  have sA : A.size ≤ 1 := by rw [hA]; exact Nat.le_refl _
  have sB : B.size ≤ 1 := by rw [hB]; exact Nat.le_refl _
  have HAB : Hid (A ++ B = S) := hide (by rw [hA, hB, hS, ← str_append]; rfl)
  have HA := hide hA
  have HB := hide hB
  clear hA hB hS
  go_enter Tryd.func51, Tryd.ntmps51
  go_wp2_with fail
  refine (itoa1_any (n / 10) A HA.out _ (by omega) (by omega)).mono ?_
  rintro e w1 ⟨rfl, hw⟩
  subst hw
  go_wp2_with fail
  refine (itoa1_any (n % 10) B HB.out _ (by omega) (by omega)).mono ?_
  rintro e w2 ⟨rfl, hw⟩
  subst hw
  go_wp2_with fail
  go_ret
  exact ⟨ret_str HAB.out, rfl⟩
set_option maxHeartbeats 400000 in
theorem writeTime_any (t : Int) (S : ByteArray) (hS : S = str (timeL t)) (w : World) (h0 : 0 ≤ t) (h1 : t < 86400) :
    Calls Tryd.prog 29 #[.int .i64 t] w fun e w' => e = .returned (.string S) ∧ w' = w := by
  obtain ⟨A, hA⟩ : ∃ A, A = str (two (t / 3600)) := ⟨_, rfl⟩
  obtain ⟨B, hB⟩ : ∃ B, B = str (two (t % 3600 / 60)) := ⟨_, rfl⟩
  obtain ⟨C, hC⟩ : ∃ C, C = str (two (t % 60)) := ⟨_, rfl⟩
  have sA : A.size ≤ 2 := by rw [hA]; exact Nat.le_refl _
  have sB : B.size ≤ 2 := by rw [hB]; exact Nat.le_refl _
  have sC : C.size ≤ 2 := by rw [hC]; exact Nat.le_refl _
  have HAB : Hid (A ++ ⟨#[58]⟩ ++ B ++ ⟨#[58]⟩ ++ C = S) := hide (by
    rw [hA, hB, hC, hS, show t % 3600 / 60 = t / 60 % 60 by omega]; rfl)
  have HA := hide hA
  have HB := hide hB
  have HC := hide hC
  clear hA hB hC hS
  go_enter Tryd.func29, Tryd.ntmps29
  go_wp2_with fail
  refine (twoDigits_any (t / 3600) A HA.out _ (by omega) (by omega)).mono ?_
  rintro e w1 ⟨rfl, hw⟩
  subst hw
  go_wp2_with fail
  refine (twoDigits_any (t % 3600 / 60) B HB.out _ (by omega) (by omega)).mono ?_
  rintro e w1 ⟨rfl, hw⟩
  subst hw
  go_wp2_with fail
  refine (twoDigits_any (t % 60) C HC.out _ (by omega) (by omega)).mono ?_
  rintro e w1 ⟨rfl, hw⟩
  subst hw
  go_wp2_with fail
  go_ret
  exact ⟨ret_str HAB.out, rfl⟩
set_option maxHeartbeats 400000 in
theorem dateC_any (q k : Int) (b : Nat) (w : World) (hb : Box w b 3 (.int .i64 q)) (h0 : 0 ≤ k) (h1 : k < 8099) :
    Calls Tryd.prog 60 #[.int .i64 k, .pointer (some ⟨b, 0, none⟩)] w fun e w' => e = .returned (.bool (decide (q < newY (1900 + k + 1)))) ∧ ∃ n, w' = w.drewN n := by
  have hc := hb.cell
  have hy : ∀ w, Calls Tryd.prog 27 #[.int .i64 (1900 + k + 1)] w fun e w' => e = .returned (.int .i64 (newY (1900 + k + 1))) ∧ w' = w := fun w => (newYear_any (1900 + k + 1) w (by omega) (by omega)).mono fun _ _ ⟨a, b⟩ => ⟨a, b.symm⟩
  have HY := hide hy
  have e1 : IntKind.i64.wrap (1900 + k) = 1900 + k := IntWalk.i64_in _ (by omega)
  have e2 : IntKind.i64.wrap (1900 + k + 1) = 1900 + k + 1 := IntWalk.i64_in _ (by omega)
  clear hy
  go_enter Tryd.func60, Tryd.ntmps60
  go_wp2_with fail
  go_quiet ((go_at_call 27; exact Calls.quiet_of_same (HY.out _)))
  go_wp2_with fail
  go_ret
  exact ⟨rfl, _, rfl⟩

def SearchP (q : Int) (w : World) (e : Ending) (w' : World) : Prop := ∃ k : Nat, k ≤ 8099 ∧ (k = 0 ∨ newY (1900 + k) ≤ q) ∧ (k = 8099 ∨ q < newY (1900 + k + 1)) ∧ e = .returned (.int .i64 k) ∧ ∃ n, w' = w.drewN n
def SearchI (q : Int) (lo hi : Nat) : Prop := lo ≤ hi ∧ hi ≤ 8099 ∧ (lo = 0 ∨ newY (1900 + lo) ≤ q) ∧ (hi = 8099 ∨ q < newY (1900 + hi + 1))
set_option maxHeartbeats 1000000 in
theorem search_any (q : Int) (b : Nat) (w : World) (hb : Box w b 3 (.int .i64 q)) :
    Calls Tryd.prog 59 #[.int .i64 8099, .func (.func 60) #[] #[.pointer (some ⟨b, 0, none⟩)]] w (SearchP q w) := by
  have HB := hide hb
  clear hb
  go_enter Tryd.func59, Tryd.ntmps59
  go_wp2_with fail
  go_loopw [5, 6] (fun i j wr => ∃ (lo hi n : Nat), i = .int .i64 lo ∧ j = .int .i64 hi ∧ lo ≤ hi ∧ hi ≤ 8099 ∧ Hid (SearchI q lo hi) ∧ wr = w.drewN n) (fun i j _ => (intOf j).toNat - (intOf i).toNat)
  case atStart => exact ⟨0, 8099, 0, rfl, rfl, by omega, by omega, hide ⟨by omega, by omega, .inl rfl, .inl rfl⟩, rfl⟩
  case round =>
    obtain ⟨lo, hi, n, rfl, rfl, h1, h2, HI, rfl⟩ := hrel
    by_cases hlt : lo < hi
    · have hc := dateC_any q (((lo + hi) / 2 : Nat) : Int) b (w.drewN n) (HB.out.drewN n) (by omega) (by omega)
      cases ht : decide (q < newY (1900 + (((lo + hi) / 2 : Nat) : Int) + 1))
      · rw [ht] at hc
        have HN : Hid (SearchI q ((lo + hi) / 2 + 1) hi) := hide ⟨by omega, h2, .inr (by
          have := of_decide_eq_false ht
          rw [show (1900 : Int) + (((lo + hi) / 2 + 1 : Nat) : Int) = 1900 + (((lo + hi) / 2 : Nat) : Int) + 1 by omega]; omega), HI.out.2.2.2⟩
        clear ht
        rw [show (((lo + hi) / 2 : Nat) : Int) = ((lo : Int) + (hi : Int)) / 2 by omega] at hc
        go_wp2_with (refine hc.mono ?_; rintro e w1 ⟨rfl, m, rfl⟩)
        go_roundw
        case rel => exact ⟨(lo + hi) / 2 + 1, hi, n + m, by go_num, rfl, by omega, h2, HN, rfl⟩
        case measure => simp [intOf]; omega
      · rw [ht] at hc
        have HN : Hid (SearchI q lo ((lo + hi) / 2)) := hide ⟨by omega, by omega, HI.out.2.2.1, .inr (of_decide_eq_true ht)⟩
        clear ht
        rw [show (((lo + hi) / 2 : Nat) : Int) = ((lo : Int) + (hi : Int)) / 2 by omega] at hc
        go_wp2_with (refine hc.mono ?_; rintro e w1 ⟨rfl, m, rfl⟩)
        go_roundw
        case rel => exact ⟨lo, (lo + hi) / 2, n + m, rfl, by go_num, by omega, by omega, HN, rfl⟩
        case measure => simp [intOf]; omega
    · obtain rfl : lo = hi := by omega
      go_wp2_with fail
      go_ret
      exact ⟨lo, h2, HI.out.2.2.1, HI.out.2.2.2, rfl, n, rfl⟩
def DateP (q : Int) (w : World) (e : Ending) (w' : World) : Prop := ∃ y m d : Int, MayD y m d ∧ daysZ y m d = q ∧ e = .returned (.tuple #[.int .i64 y, .int .i64 m, .int .i64 d]) ∧ Below w.heap.size w w'
theorem year_of {q : Int} {k : Nat} (h0 : -25567 ≤ q) (h1 : q < 2932897) (h2 : k ≤ 8099) (h3 : k = 0 ∨ newY (1900 + k) ≤ q) (h4 : k = 8099 ∨ q < newY (1900 + k + 1)) : newY (1900 + k) ≤ q ∧ q < newY (1900 + k) + yl (1900 + k) := by
  constructor
  · rcases h3 with rfl | h3
    · rw [show (1900 : Int) + ((0 : Nat) : Int) = 1900 by omega, newY_first]; exact h0
    · exact h3
  · rw [← newY_succ]
    rcases h4 with rfl | h4
    · rw [show (1900 : Int) + ((8099 : Nat) : Int) + 1 = 10000 by omega, newY_last]; exact h1
    · exact h4
set_option maxHeartbeats 1000000 in
theorem date_any (q : Int) (w : World) (hE : EnvS w) (h0 : -25567 ≤ q) (h1 : q < 2932897) :
    Calls Tryd.prog 50 #[.int .i64 q] w (DateP q w) := by
  have HE := hide hE
  have hb := Box.new w 3 (.int .i64 q)
  have hcell := hb.cell
  have HB := hide hb
  have HE1 := hide (hE.kept ((Below.refl _ w).alloc (Nat.le_refl _) (.cells #[.int .i64 q] 3)))
  clear hE hb
  go_enter Tryd.func50, Tryd.ntmps50
  go_wp2_with fail
  refine (search_any q w.heap.size _ HB.out).mono ?_
  rintro e w1 ⟨k, k1, k2, k3, rfl, n, rfl⟩
  have hy := year_of h0 h1 k1 k2 k3
  obtain ⟨y, hyk⟩ : ∃ y : Int, y = 1900 + k := ⟨_, rfl⟩
  have y0 : 1900 ≤ y := by omega
  have y1 : y ≤ 9999 := by omega
  rw [← hyk] at hy
  obtain ⟨hy1, hy2⟩ := hy
  have hyl := yl_bd y
  have HYK := hide hyk
  have hYC : ∀ w, Calls Tryd.prog 27 #[.int .i64 y] w fun e w' => e = .returned (.int .i64 (newY y)) ∧ w' = w := fun w => (newYear_any y w (by omega) (by omega)).mono fun _ _ ⟨a, b⟩ => ⟨a, b.symm⟩
  have HYC := hide hYC
  have HML := hide (fun j (h1 : 1 ≤ j) (h2 : j ≤ 12) w (hE : EnvS w) => monthLength_any y j w hE y0 y1 h1 h2)
  have e1 : (1900 : Int) + k = y := hyk.symm
  have hcell1 : ((w.alloc (.cells #[.int .i64 q] 3)).drewN n).cell? ⟨w.heap.size, 0, none⟩ = some (.int .i64 q) := hcell
  have hnb := newY_bd y (by omega) (by omega)
  have e2 : IntKind.i64.wrap (q - newY y) = q - newY y := IntWalk.i64_in _ (by omega)
  have e3 : IntKind.i64.wrap (q - newY y + 1) = q - newY y + 1 := IntWalk.i64_in _ (by omega)
  clear k2 k3 hYC hyk hcell
  go_wp2_with fail
  go_quiet ((go_at_call 27; exact quiet_add_same (HYC.out _)))
  clear hcell1
  have hb1 : Below w.heap.size w ((w.alloc (.cells #[.int .i64 q] 3)).drewN (n + nq)) := ((Below.refl _ w).alloc (Nat.le_refl _) _).trans ⟨rfl, rfl, rfl, Nat.le_refl _, fun _ _ => rfl⟩
  have HB1 := hide hb1
  have HE2 := hide (HE.out.kept hb1)
  clear hb1
  go_wp2_with fail
  rw [World.drewN_drewN]
  go_loop [6, 7] (fun a i => ∃ j : Nat, j < 12 ∧ i = .int .i64 ((j : Int) + 1) ∧ a = .int .i64 (q - newY y + 1 - cumN y j) ∧ cumN y j ≤ q - newY y) (fun _ i => (12 - intOf i).toNat)
  case atStart => exact ⟨0, by omega, rfl, by rw [show cumN y 0 = 0 from rfl]; go_num, by rw [show cumN y 0 = 0 from rfl]; omega⟩
  case round =>
    obtain ⟨j, j1, rfl, rfl, hj⟩ := hrel
    have hcl := cumN_le y j (by omega)
    have hcn := cumN_nn y j
    have hcs := cumN_succ y j
    have HS := hide (cumN_succ y j)
    have hdk := dim_bd y ((j : Int) + 1)
    have hlast : j = 11 → cumN y (j + 1) = yl y := fun e => by subst e; exact cumN_12 y
    by_cases hlt : dim y ((j : Int) + 1) < q - newY y + 1 - cumN y j
    · have h11 : j < 11 := by
        rcases Nat.lt_or_ge j 11 with h | h
        · exact h
        · have := hlast (by omega); omega
      clear hlast hcs
      go_wp2_with fail
      refine (HML.out ((j : Int) + 1) (by omega) (by omega) _ HE2.out).mono ?_
      rintro e w1 ⟨rfl, hw⟩
      subst hw
      go_wp2_with fail
      refine (HML.out ((j : Int) + 1) (by omega) (by omega) _ HE2.out).mono ?_
      rintro e w1 ⟨rfl, hw⟩
      subst hw
      go_wp2_with fail
      go_round
      case rel => exact ⟨j + 1, by omega, by go_num, by rw [HS.out]; go_num, by rw [HS.out]; omega⟩
      case measure => simp [intOf]; omega
    · have HM : Hid (MayD y ((j : Int) + 1) (q - newY y + 1 - cumN y j)) := hide (by unfold MayD; omega)
      have HD : Hid (daysZ y ((j : Int) + 1) (q - newY y + 1 - cumN y j) = q) := hide (by unfold daysZ; rw [show ((j : Int) + 1 - 1).toNat = j by omega]; omega)
      clear hlast hcs
      go_wp2_with fail
      refine (HML.out ((j : Int) + 1) (by omega) (by omega) _ HE2.out).mono ?_
      rintro e w1 ⟨rfl, hw⟩
      subst hw
      go_wp2_with fail
      go_ret3
      exact ⟨_, _, _, HM.out, HD.out, rfl, HB1.out⟩

/-- the world that a call made, with draws, keeps what was there -/
theorem Below.drews {B : Nat} {w w' : World} (h : Below B w w') (n : Nat) : Below B w (w'.drewN n) := h.trans ⟨rfl, rfl, rfl, Nat.le_refl _, fun _ _ => rfl⟩
theorem dayTab_size (n : Nat) (h : n < 7) : (str (dayTab.getD n [])).size = 3 := by
  obtain rfl | rfl | rfl | rfl | rfl | rfl | rfl : n = 0 ∨ n = 1 ∨ n = 2 ∨ n = 3 ∨ n = 4 ∨ n = 5 ∨ n = 6 := by omega
  all_goals rfl
theorem monTab_size (n : Nat) (h : n < 12) : (str (monTab.getD n [])).size = 3 := by
  obtain rfl | rfl | rfl | rfl | rfl | rfl | rfl | rfl | rfl | rfl | rfl | rfl : n = 0 ∨ n = 1 ∨ n = 2 ∨ n = 3 ∨ n = 4 ∨ n = 5 ∨ n = 6 ∨ n = 7 ∨ n = 8 ∨ n = 9 ∨ n = 10 ∨ n = 11 := by omega
  all_goals rfl
theorem tm7 (q : Int) : -7 < q.tmod 7 ∧ q.tmod 7 < 7 ∧ q.tmod 7 % 7 = q % 7 := by
  have h := Int.tmod_eq_emod (a := q) (b := 7)
  split at h <;> omega
def WDayP (q : Int) (w : World) (e : Ending) (w' : World) : Prop := ∃ y m d : Int, MayD y m d ∧ daysZ y m d = q ∧ e = .returned (.string (str (dateL q y m d))) ∧ Below w.heap.size w w'
set_option maxHeartbeats 400000 in
theorem writeDay_any (q : Int) (w : World) (hE : EnvS w) (h0 : -25567 ≤ q) (h1 : q < 2932897) :
    Calls Tryd.prog 28 #[.int .i64 q] w (WDayP q w) := by
  have HE := hide hE
  clear hE
  go_enter Tryd.func28, Tryd.ntmps28
  go_wp2_with fail
  refine (date_any q _ HE.out h0 h1).mono ?_
  rintro e w1 ⟨y, m, d, hm, hd, rfl, hb⟩
  have HB := hide hb
  have HE1 := hide (HE.out.kept hb)
  have HM := hide hm
  have HD := hide hd
  obtain ⟨y0, y1, m0, m1, d0, d1⟩ := hm
  have hdim := dim_bd y m
  clear hb hd
  obtain ⟨tm1, tm2, tm3⟩ := tm7 q
  have HT := hide tm3
  clear tm3
  obtain ⟨N, hN⟩ : ∃ N, N = str (dayTab.getD (q % 7).toNat []) := ⟨_, rfl⟩
  obtain ⟨M, hM⟩ : ∃ M, M = str (monTab.getD (m.toNat - 1) []) := ⟨_, rfl⟩
  have hcd := HE1.out.day (q % 7).toNat (by omega)
  have hcm := HE1.out.mon (m.toNat - 1) (by omega)
  rw [← hN, ← HT.out] at hcd
  rw [← hM] at hcm
  have sN : N.size = 3 := by rw [hN, dayTab_size _ (by omega)]
  have sM : M.size = 3 := by rw [hM, monTab_size _ (by omega)]
  have HN := hide hN
  have HMM := hide hM
  clear hN hM hcm
  obtain ⟨D, hD⟩ : ∃ D, D = str (two d) := ⟨_, rfl⟩
  obtain ⟨Y, hY⟩ : ∃ Y, Y = str (four y) := ⟨_, rfl⟩
  have sD : D.size = 2 := by rw [hD]; rfl
  have sY : Y.size = 4 := by rw [hY]; rfl
  have HDD := hide hD
  have HYY := hide hY
  have HR : Hid (N ++ ⟨#[44, 32]⟩ ++ D ++ ⟨#[32]⟩ ++ M ++ ⟨#[32]⟩ ++ Y = str (dateL q y m d)) := hide (by
    rw [HN.out, hD, HMM.out, hY]
    unfold dateL dayUp monUp
    simp only [str_append]
    rw [show (m - 1).toNat = m.toNat - 1 by omega]; rfl)
  clear hD hY
  have hcm2 : ∀ w2, Below w1.heap.size w1 w2 → w2.cell? ⟨2, m.toNat - 1, none⟩ = some (.string M) := fun w2 h2 => by
    rw [HMM.out]; exact (HE1.out.kept h2).mon (m.toNat - 1) (by omega)
  have HCM := hide hcm2
  have hKP : ∀ w2 w3, Below w2.heap.size w2 w3 → Below w1.heap.size w1 w2 → Below w1.heap.size w1 w3 ∧ w3.cell? ⟨2, m.toNat - 1, none⟩ = some (.string M) := fun w2 w3 h3 h2 => ⟨h2.trans (h3.mono h2.size), HCM.out w3 (h2.trans (h3.mono h2.size))⟩
  have HKP := hide hKP
  have hc0 := HCM.out w1 (Below.refl _ _)
  have hcb := Below.refl w1.heap.size w1
  clear hcm2 hKP
  go_wp2_with fail
  have i1 : IntKind.i64.wrap (m - 1) = m - 1 := IntWalk.i64_in _ (by omega)
  have i2 : 0 ≤ m - 1 := by omega
  have i3 : m - 1 < 12 := by omega
  have i4 : (m - 1).toNat = m.toNat - 1 := by omega
  go_region_held3 (fun w' => Below w1.heap.size w1 w' ∧ w'.cell? ⟨2, m.toNat - 1, none⟩ = some (.string M))
    (refine ⟨?_, ?_⟩ <;> first | (with_reducible assumption) | (with_reducible exact Below.drew (by assumption)) | (with_reducible exact hc0) | (with_reducible exact (HKP.out _ _ (by with_reducible assumption) (by first | with_reducible assumption | with_reducible exact And.left (by assumption))).1) | (with_reducible exact (HKP.out _ _ (by with_reducible assumption) (by first | with_reducible assumption | with_reducible exact And.left (by assumption))).2) | go_keep)
    (first
    | (go_at_call 51; go_must (refine (twoDigits_any d D HDD.out _ (Int.le_trans (by decide) d0) (by omega)).mono ?_; rintro e w2 ⟨rfl, hw2⟩; subst hw2))
    | (go_at_call 52; go_must (refine (itoa4_any y Y HYY.out _ (HE1.out.kept (by first | with_reducible assumption | with_reducible exact And.left (by assumption))) (by omega) y1).mono ?_; rintro e w3 ⟨rfl, hb3⟩)))
  go_wp2_with fail
  go_ret
  refine ⟨y, m, d, HM.out, HD.out, ret_str HR.out, HB.out.trans (Below.mono ?_ HB.out.size)⟩
  first | with_reducible assumption | with_reducible exact And.left (by assumption)

theorem writeNo_any (n : Int) (w : World) (h : n < -2208988800 ∨ 253402300800 ≤ n) :
    Calls Tryd.prog 13 #[.int .i64 n] w fun e w' => e = .returned (.tuple #[.string ⟨#[]⟩, .int .i64 1]) ∧ w = w' := by
  have N1 := hide newY_first
  have N2 := hide newY_last
  by_cases c : n < -2208988800
  · have t1 : decide (n < -2208988800) = true := decide_eq_true c
    clear h
    go_enter Tryd.func13, Tryd.ntmps13
    go_wp2_with fail
    refine (newYear_any 1900 _ (by omega) (by omega)).mono ?_
    rintro e w1 ⟨rfl, rfl⟩
    rw [N1.out]
    go_wp2_with fail
    go_ret2
    exact ⟨rfl, rfl⟩
  · have t1 : decide (n < -2208988800) = false := decide_eq_false c
    have c2 : 253402300800 ≤ n := by omega
    have t2 : decide (253402300800 ≤ n) = true := decide_eq_true c2
    clear h c
    go_enter Tryd.func13, Tryd.ntmps13
    go_wp2_with fail
    refine (newYear_any 1900 _ (by omega) (by omega)).mono ?_
    rintro e w1 ⟨rfl, rfl⟩
    rw [N1.out]
    go_wp2_with fail
    refine (newYear_any 10000 _ (by omega) (by omega)).mono ?_
    rintro e w1 ⟨rfl, rfl⟩
    rw [N2.out]
    go_wp2_with fail
    go_ret2
    exact ⟨rfl, rfl⟩
def WriteP (n : Int) (w : World) (e : Ending) (w' : World) : Prop := ∃ y m d : Int, MayD y m d ∧ daysZ y m d = n / 86400 ∧ e = .returned (.tuple #[.string (str (textL (n / 86400) y m d (n % 86400))), .int .i64 0]) ∧ Below w.heap.size w w'
theorem monUp_len (m : Int) (h : 1 ≤ m) (h' : m ≤ 12) : (monUp m).length = 3 := monTab_size _ (by omega)
theorem dayUp_len (q : Int) : (dayUp q).length = 3 := dayTab_size _ (by omega)
theorem dateL_len (q y m d : Int) (h : 1 ≤ m) (h' : m ≤ 12) : (dateL q y m d).length = 16 := by
  unfold dateL
  simp only [List.length_append, monUp_len m h h', dayUp_len]
  rfl
set_option maxHeartbeats 400000 in
theorem writeYes_any (n : Int) (w : World) (hE : EnvS w) (h1 : -2208988800 ≤ n) (h2 : n < 253402300800) :
    Calls Tryd.prog 13 #[.int .i64 n] w (WriteP n w) := by
  have N1 := hide newY_first
  have N2 := hide newY_last
  have HE := hide hE
  have t1 : decide (n < -2208988800) = false := decide_eq_false (by omega)
  have t2 : decide (253402300800 ≤ n) = false := decide_eq_false (by omega)
  have e1 : -25567 + (n + 2208988800) / 86400 = n / 86400 := by omega
  have e2 : (n + 2208988800) % 86400 = n % 86400 := by omega
  obtain ⟨T, hT⟩ : ∃ T, T = str (timeL (n % 86400)) := ⟨_, rfl⟩
  have sT : T.size ≤ 8 := by rw [hT]; exact Nat.le_refl _
  have HT := hide hT
  clear hT
  clear hE
  go_enter Tryd.func13, Tryd.ntmps13
  go_wp2_with fail
  refine (newYear_any 1900 _ (by omega) (by omega)).mono ?_
  rintro e w1 ⟨rfl, rfl⟩
  rw [N1.out]
  go_wp2_with fail
  refine (newYear_any 10000 _ (by omega) (by omega)).mono ?_
  rintro e w1 ⟨rfl, rfl⟩
  rw [N2.out]
  go_wp2_with fail
  refine (writeDay_any (n / 86400) _ HE.out (by omega) (by omega)).mono ?_
  rintro e w1 ⟨y, m, d, hm, hd, rfl, hb⟩
  have HB := hide hb
  have HM := hide hm
  have HD := hide hd
  have hl := dateL_len (n / 86400) y m d hm.2.2.1 hm.2.2.2.1
  obtain ⟨A, hA⟩ : ∃ A, A = str (dateL (n / 86400) y m d) := ⟨_, rfl⟩
  rw [← hA]
  have sA : A.size ≤ 16 := by rw [hA, str_size, hl]; exact Nat.le_refl _
  have HR : Hid (A ++ ⟨#[32]⟩ ++ T ++ ⟨#[32, 43, 48, 48, 48, 48]⟩ = str (textL (n / 86400) y m d (n % 86400))) := hide (by
    rw [hA, HT.out]; unfold textL; simp only [str_append]; rfl)
  clear hA hm hd hb hl
  go_wp2_with fail
  refine (writeTime_any (n % 86400) T HT.out _ (by omega) (by omega)).mono ?_
  rintro e w2 ⟨rfl, hw2⟩
  subst hw2
  go_wp2_with fail
  go_ret2
  exact ⟨y, m, d, HM.out, HD.out, by rw [← HR.out]; rfl, HB.out⟩
end Go.Proofs.YtiojfknphpnlhaaDoor
