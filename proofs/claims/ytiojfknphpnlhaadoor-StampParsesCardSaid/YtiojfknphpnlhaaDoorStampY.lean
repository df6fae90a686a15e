/- What stamp.Parse reads, and its WALK. No statement is proved here. -/
import Derived.Test.YtiojfknphpnlhaaDoorStampQ
import Derived.Deep.RegionHeld3
import Derived.Deep.DeepMust
namespace Go.Proofs.YtiojfknphpnlhaaDoor
set_option maxRecDepth 100000
open Go.RowKit
set_option linter.unusedVariables false
set_option linter.unusedSimpArgs false

def parV : Option Int → Value
  | some n => .tuple #[.int .i64 n, .int .i64 0]
  | none => .tuple #[.int .i64 0, .int .i64 2]
def fillT (U : List (List UInt8)) : List (List UInt8) := if U.length = 4 then U ++ [[43, 48, 48, 48, 48]] else U
def readV : List (List UInt8) → Option Int
  | [a, b, c, t, z] => fin (dayV a b c) (timeV t) (zoneV z)
  | _ => none
theorem read_fill (U : List (List UInt8)) : readV (fillT U) = readT U := by
  unfold fillT
  match U with
  | [] => rfl
  | [_] => rfl
  | [_, _] => rfl
  | [_, _, _] => rfl
  | [a, b, c, t] => rfl
  | [a, b, c, t, z] => rfl
  | _ :: _ :: _ :: _ :: _ :: _ :: _ => rfl
theorem readV_no (V : List (List UInt8)) (h : V.length ≠ 5) : readV V = none := by
  unfold readV
  split
  · exact absurd rfl h
  · rfl
theorem tok_mem : ∀ (l cur : List UInt8), ∀ p ∈ tokB cur l, p.length ≤ cur.length + l.length := by
  intro l
  induction l with
  | nil =>
    intro cur p hp
    unfold tokB at hp
    split at hp
    · cases hp
    · simp at hp; subst hp; simp
  | cons c r ih =>
    intro cur p hp
    unfold tokB at hp
    split at hp
    · split at hp
      · have := ih [] p hp; simp at this ⊢; omega
      · rcases List.mem_cons.1 hp with rfl | hp
        · simp
        · have := ih [] p hp; simp at this ⊢; omega
    · have := ih (cur ++ [c]) p hp; simp at this ⊢; omega
theorem toks_mem (l : List UInt8) : ∀ p ∈ toksL l, p.length ≤ l.length := by
  intro p hp
  have := tok_mem (lowL l) [] p ((List.takeWhile_prefix notRem).subset hp)
  rw [lowL_length] at this
  simpa using this
theorem toks_len (l : List UInt8) : (toksL l).length ≤ l.length + 1 := by
  have h1 := ((List.takeWhile_prefix notRem (l := tokB [] (lowL l))).length_le)
  have h2 := tok_len (lowL l) []
  rw [lowL_length] at h2
  exact Nat.le_trans h1 h2
theorem drop_mem (T : List (List UInt8)) : ∀ p ∈ dropDay T, p ∈ T := by
  intro p hp
  cases T with
  | nil => exact hp
  | cons a r =>
    rw [dropDay] at hp
    by_cases h : isDayN a = true
    · rw [if_pos h] at hp; exact List.mem_cons_of_mem _ hp
    · rw [if_neg h] at hp; exact hp
theorem drop_len (T : List (List UInt8)) : (dropDay T).length ≤ T.length := by
  cases T with
  | nil => exact Nat.le_refl _
  | cons a r =>
    rw [dropDay]
    by_cases h : isDayN a = true
    · rw [if_pos h]; simp
    · rw [if_neg h]; exact Nat.le_refl _
theorem dayV_bd {a b c : List UInt8} {v : Int} (h : dayV a b c = some v) : -25567 ≤ v ∧ v < 2932897 := by
  unfold dayV at h
  split at h
  · split at h
    · split at h
      · rename_i hm
        have := days_bd _ _ _ (mayB_iff.1 hm)
        rw [← Option.some.inj h]; exact this
      · cases h
    · cases h
  · cases h
theorem timeV_bd (l : List UInt8) : bd90 (timeV l) := by
  unfold timeV
  split
  · split
    · exact clock_bd _ _ _
    · trivial
  · split
    · exact clock_bd _ _ _
    · trivial
  · trivial
theorem signV_bd {l : List UInt8} {v : Int} (h : signV l = some v) : -90000 ≤ v ∧ v ≤ 90000 := by
  unfold signV at h
  split at h
  · split at h
    · rename_i a b c d _
      have hb := clock_bd [a, b] [c, d] [48, 48]
      rw [h] at hb
      unfold bd90 at hb
      simp only at hb
      omega
    · split at h
      · rename_i a b c d _ _
        have hb := clock_bd [a, b] [c, d] [48, 48]
        cases hc : clockV [a, b] [c, d] [48, 48] with
        | none => rw [hc] at h; cases h
        | some u =>
          rw [hc] at h hb
          have he : -u = v := Option.some.inj h
          unfold bd90 at hb
          simp only at hb
          omega
      · cases h
  · cases h
theorem look_mem (t : List UInt8) : ∀ (L : List (List UInt8 × Int)) (h : Int), L.lookup t = some h → ∃ x ∈ L, x.2 = h
  | [], h, e => by cases e
  | (a, b) :: r, h, e => by
    rw [List.lookup] at e
    split at e
    · exact ⟨(a, b), List.mem_cons_self .., Option.some.inj e⟩
    · obtain ⟨x, hx, hh⟩ := look_mem t r h e
      exact ⟨x, List.mem_cons_of_mem _ hx, hh⟩
theorem zoneV_bd {l : List UInt8} {v : Int} (h : zoneV l = some v) : -90000 ≤ v ∧ v ≤ 90000 := by
  unfold zoneV at h
  split at h
  · rename_i hh e
    obtain ⟨x, hx, rfl⟩ := look_mem l zonNam hh e
    have : ∀ x ∈ zonNam, -8 ≤ x.2 ∧ x.2 ≤ 0 := by decide
    have := this x hx
    have := Option.some.inj h
    omega
  · exact signV_bd h
def isDayT : List (List UInt8) → Bool
  | [] => false
  | a :: _ => isDayN a
def od (o : Option Int) : Int := o.getD 0
def ob (o : Option Int) : Bool := o.isSome
theorem optP_eq (o : Option Int) : optP o = .tuple #[.int .i64 (od o), .bool (ob o)] := by cases o <;> rfl
theorem ob_some {o : Option Int} (h : ob o = true) : o = some (od o) := by cases o with | none => cases h | some v => rfl
theorem ob_none {o : Option Int} (h : ob o = false) : o = none := by cases o with | none => rfl | some v => cases h
theorem od_day (a b c : List UInt8) : -25567 ≤ od (dayV a b c) ∧ od (dayV a b c) < 2932897 := by
  cases h : dayV a b c with
  | none => exact ⟨by decide, by decide⟩
  | some v => exact dayV_bd h
theorem od_time (l : List UInt8) : 0 ≤ od (timeV l) ∧ od (timeV l) ≤ 90000 := by
  have hb := timeV_bd l
  cases h : timeV l with
  | none => exact ⟨by decide, by decide⟩
  | some v => rw [h] at hb; exact hb
theorem od_zone (l : List UInt8) : -90000 ≤ od (zoneV l) ∧ od (zoneV l) ≤ 90000 := by
  cases h : zoneV l with
  | none => exact ⟨by decide, by decide⟩
  | some v => exact zoneV_bd h
set_option maxHeartbeats 2000000 in
theorem parse_any (s : ByteArray) (w : World) (hE : EnvS w) (hs : s.size ≤ 1000) :
    Calls Tryd.prog 11 #[.string s] w fun e w' => e = .returned (parV (parseO s.data.toList)) ∧ Below w.heap.size w w' := by
  have HE := hide hE
  clear hE
  obtain ⟨T, hT⟩ : ∃ T, T = toksL s.data.toList := ⟨_, rfl⟩
  have hmem : ∀ p ∈ T, p.length ≤ 1000 := fun p hp => by
    rw [hT] at hp
    have := toks_mem _ p hp
    rw [toList_length] at this; omega
  have hlen : T.length ≤ 1001 := by have := toks_len s.data.toList; rw [hT]; rw [toList_length] at this; omega
  have hres : Hid (parseO s.data.toList = readV (fillT (dropDay T))) := hide (by rw [read_fill, hT]; rfl)
  have HMEM := hide hmem
  have HT := hide hT
  clear hmem
  go_enter Tryd.func11, Tryd.ntmps11
  go_wp2_with fail
  refine (tokens_any s _ (by omega)).mono ?_
  rintro e w1 ⟨v, rfl, hrow, hb⟩
  rw [← hT] at hrow
  clear hT
  obtain ⟨g, off, cap, hv, -⟩ := id hrow
  subst hv
  have HROW := hide hrow
  have HB := hide hb
  clear hrow hb
  go_upto_region 2 with (fail)
  go_cut [4, 21] (fun s4 s21 wx => s4 = .slice (some ⟨g, off, none⟩) T.length cap ∧ s21 = .bool (isDayT T) ∧ Hid (TRow w wx s4 T) ∧ Hid (Below w.heap.size w wx))
  case first =>
    cases T with
    | nil =>
      go_wp2_with fail
      go_meet
      exact ⟨rfl, rfl, HROW, HB⟩
    | cons a r =>
      have hc0 := HROW.out.cellAt 0 (by simp)
      obtain ⟨A, hA⟩ : ∃ A, A = str a := ⟨_, rfl⟩
      have hc1 : w1.cell? ⟨g, off, none⟩ = some (.string A) := by rw [hA]; exact hc0
      have HA : Hid (A.data.toList = a) := hide (by rw [hA, str_toList])
      have t1 : decide ((0 : Int) < (r.length : Int) + 1) = true := decide_eq_true (by omega)
      clear hc0 hA
      go_wp2_with fail
      refine (isDayName_any A _ (HE.out.kept HB.out)).mono ?_
      rintro e w2 ⟨rfl, hb2⟩
      have HB2 := hide (HB.out.trans (hb2.mono HB.out.size))
      have HROW2 := hide (HROW.out.kept hb2)
      rw [HA.out]
      clear hb2
      go_wp2_with fail
      go_meet
      exact ⟨rfl, rfl, HROW2, HB2⟩
  case rest =>
    obtain ⟨rfl, rfl, HROW1, HB1⟩ := hcut
    clear HROW HB
    go_upto_if 21 with (fail)
    go_cut [4] (fun s4 wx => Hid (TRow w wx s4 (dropDay T)) ∧ Hid (Below w.heap.size w wx))
    case first =>
      cases T with
      | nil =>
        rw [show isDayT [] = false from rfl]
        go_wp2_with fail
        go_meet
        exact ⟨HROW1, HB1⟩
      | cons a r =>
        cases hd : isDayN a
        · rw [show isDayT (a :: r) = false from hd]
          have HD : Hid (dropDay (a :: r) = a :: r) := hide (by rw [dropDay, if_neg (by simp [hd])])
          clear hd
          go_wp2_with fail
          go_meet
          exact ⟨by rw [HD.out]; exact HROW1, HB1⟩
        · rw [show isDayT (a :: r) = true from hd]
          have HD : Hid (dropDay (a :: r) = r) := hide (by rw [dropDay, if_pos hd])
          have hcap : r.length + 1 ≤ cap := by
            obtain ⟨g', off', cap', e, h2, _⟩ := HROW1.out
            injection e with e1 e2 e3
            rw [e3]; simpa using h2
          clear hd
          by_cases hc1 : cap = 1
          · subst hc1
            obtain ⟨rfl, ht⟩ := TRow.tail1 HROW1.out
            have HTL := hide ht
            clear ht
            go_wp2_with fail
            go_meet
            exact ⟨by rw [HD.out]; exact HTL, HB1⟩
          · have HTL := hide (TRow.tail HROW1.out hc1)
            have hcn : ((cap : Int) == 1) = false := beq_eq_false_iff_ne.2 (by omega)
            go_wp2_with fail
            go_meet
            exact ⟨by rw [HD.out]; exact HTL, HB1⟩
    case rest =>
      obtain ⟨HR, HB2⟩ := hcut
      clear HROW1 HB1
      obtain ⟨U, hU⟩ : ∃ U, U = dropDay T := ⟨_, rfl⟩
      have HMU : Hid (∀ p ∈ U, p.length ≤ 1000) := hide (fun p hp => HMEM.out p (drop_mem T p (hU ▸ hp)))
      have hlu : U.length ≤ 1001 := by rw [hU]; exact Nat.le_trans (drop_len T) hlen
      rw [← hU] at HR hres
      clear hU hlen HMEM HT
      obtain ⟨g2, off2, cap2, hv2, -⟩ := id HR.out
      subst hv2
      go_upto_if 26 with (fail)
      go_cut [4] (fun s4 wx => Hid (TRow w wx s4 (fillT U)) ∧ Hid (Below w.heap.size w wx))
      case first =>
        by_cases h4 : U.length = 4
        · have HF : Hid (fillT U = U ++ [[43, 48, 48, 48, 48]]) := hide (by unfold fillT; rw [if_pos h4])
          have t4 : ((U.length : Int) == 4) = true := by rw [beq_iff_eq]; omega
          clear h4
          go_wp2_with (at_builtin; go_must (refine wpList_trow rfl (.tmp 27) (.tmp 28) rfl _ U rfl w wc _ [43, 48, 48, 48, 48] rfl HR.out HB2.out rfl (by omega) ?_); intro v' w' h1 h2; have H1 := hide h1; have H2 := hide h2; clear h1 h2)
          go_meet
          exact ⟨by rw [HF.out]; exact H1, H2⟩
        · have HF : Hid (fillT U = U) := hide (by unfold fillT; rw [if_neg h4])
          have t4 : ((U.length : Int) == 4) = false := by rw [beq_eq_false_iff_ne]; omega
          clear h4
          go_wp2_with fail
          go_meet
          exact ⟨by rw [HF.out]; exact HR, HB2⟩
      case rest =>
        obtain ⟨HR3, HB3⟩ := hcut
        clear HR HB2
        obtain ⟨V, hV⟩ : ∃ V, V = fillT U := ⟨_, rfl⟩
        have HMV : Hid (∀ p ∈ V, p.length ≤ 1000) := hide (fun p hp => by
          rw [hV] at hp
          unfold fillT at hp
          split at hp
          · rcases List.mem_append.1 hp with h | h
            · exact HMU.out p h
            · simp at h; subst h; decide
          · exact HMU.out p hp)
        have hlv : V.length ≤ 1002 := by
          rw [hV]; unfold fillT
          split
          · rw [List.length_append]; simp; omega
          · omega
        rw [← hV] at HR3 hres
        clear hV hlu HMU
        obtain ⟨g3, off3, cap3, hv3, hcap3, -, -, hg3, -⟩ := id HR3.out
        subst hv3
        by_cases h5 : V.length = 5
        · obtain ⟨a, b, c, t, z, rfl⟩ : ∃ a b c t z, V = [a, b, c, t, z] := by
            match V, h5 with
            | [a, b, c, t, z], _ => exact ⟨a, b, c, t, z, rfl⟩
          have hc0 := HR3.out.cellAt 0 (by simp)
          have hc1 := HR3.out.cellAt 1 (by simp)
          have hc2 := HR3.out.cellAt 2 (by simp)
          have hc3 := HR3.out.cellAt 3 (by simp)
          have hc4 := HR3.out.cellAt 4 (by simp)
          have za := HMV.out a (by simp)
          have zc := HMV.out c (by simp)
          have zt := HMV.out t (by simp)
          have zz := HMV.out z (by simp)
          have hday : ∀ w, EnvS w → Calls Tryd.prog 19 #[.string (str a), .string (str b), .string (str c)] w fun e w' => e = .returned (.tuple #[.int .i64 (od (dayV a b c)), .bool (ob (dayV a b c))]) ∧ Below w.heap.size w w' := fun w hE => (readDay_any (str a) (str b) (str c) w hE (by rw [str_size]; unfold maxLen; omega) (by rw [str_size]; unfold maxLen; omega)).mono fun e w' ⟨h1, h2⟩ => ⟨by rw [h1, optP_eq]; rfl, h2⟩
          have htime : ∀ w, EnvS w → Calls Tryd.prog 20 #[.string (str t)] w fun e w' => e = .returned (.tuple #[.int .i64 (od (timeV t)), .bool (ob (timeV t))]) ∧ Below w.heap.size w w' := fun w hE => (readTime_any (str t) w hE (by rw [str_size]; omega)).mono fun e w' ⟨h1, h2⟩ => ⟨by rw [h1, optP_eq]; rfl, h2⟩
          have hzone : ∀ w, EnvS w → Calls Tryd.prog 21 #[.string (str z)] w fun e w' => e = .returned (.tuple #[.int .i64 (od (zoneV z)), .bool (ob (zoneV z))]) ∧ Below w.heap.size w w' := fun w hE => (readZone_any (str z) w hE (by rw [str_size]; omega)).mono fun e w' ⟨h1, h2⟩ => ⟨by rw [h1, optP_eq]; rfl, h2⟩
          have HPAR : Hid (parseO s.data.toList = fin (dayV a b c) (timeV t) (zoneV z)) := hres
          obtain ⟨d1, d2⟩ := od_day a b c
          obtain ⟨e1, e2⟩ := od_time t
          obtain ⟨f1, f2⟩ := od_zone z
          have hsd := @ob_some (dayV a b c)
          have hst := @ob_some (timeV t)
          have hsz := @ob_some (zoneV z)
          have hnd := @ob_none (dayV a b c)
          have hnt := @ob_none (timeV t)
          have hnz := @ob_none (zoneV z)
          generalize dayV a b c = DV at hday HPAR d1 d2 hsd hnd
          generalize timeV t = TV at htime HPAR e1 e2 hst hnt
          generalize zoneV z = ZV at hzone HPAR f1 f2 hsz hnz
          obtain ⟨A, hA⟩ : ∃ A, A = str a := ⟨_, rfl⟩
          obtain ⟨B, hB⟩ : ∃ B, B = str b := ⟨_, rfl⟩
          obtain ⟨C, hC⟩ : ∃ C, C = str c := ⟨_, rfl⟩
          obtain ⟨E, hE⟩ : ∃ E, E = str t := ⟨_, rfl⟩
          obtain ⟨Z, hZ⟩ : ∃ Z, Z = str z := ⟨_, rfl⟩
          have r0 : wc.cell? ⟨g3, off3, none⟩ = some (.string A) := by rw [hA]; exact hc0
          have r1 : wc.cell? ⟨g3, off3 + 1, none⟩ = some (.string B) := by rw [hB]; exact hc1
          have r2 : wc.cell? ⟨g3, off3 + 2, none⟩ = some (.string C) := by rw [hC]; exact hc2
          have r3 : wc.cell? ⟨g3, off3 + 3, none⟩ = some (.string E) := by rw [hE]; exact hc3
          have r4 : wc.cell? ⟨g3, off3 + 4, none⟩ = some (.string Z) := by rw [hZ]; exact hc4
          rw [← hA, ← hB, ← hC] at hday
          rw [← hE] at htime
          rw [← hZ] at hzone
          have hKP : ∀ w2 w3, Below w2.heap.size w2 w3 → Below wc.heap.size wc w2 → Below wc.heap.size wc w3 ∧ w3.cell? ⟨g3, off3, none⟩ = some (.string A) ∧ w3.cell? ⟨g3, off3 + 1, none⟩ = some (.string B) ∧ w3.cell? ⟨g3, off3 + 2, none⟩ = some (.string C) := fun w2 w3 h3 h2 => by
            have hb := h2.trans (h3.mono h2.size)
            exact ⟨hb, (hb.cell (p := ⟨g3, off3, none⟩) hg3).trans r0, (hb.cell (p := ⟨g3, off3 + 1, none⟩) hg3).trans r1, (hb.cell (p := ⟨g3, off3 + 2, none⟩) hg3).trans r2⟩
          have HKP := hide hKP
          have HE3 := hide (HE.out.kept HB3.out)
          have R3 := hide r3
          have R4 := hide r4
          have HDAY := hide hday
          have HTIME := hide htime
          have HZONE := hide hzone
          have HSD := hide hsd
          have HST := hide hst
          have HSZ := hide hsz
          have HND := hide hnd
          have HNT := hide hnt
          have HNZ := hide hnz
          have hcb := Below.refl wc.heap.size wc
          clear hc0 hc1 hc2 hc3 hc4 za zc zt zz hA hB hC hE hZ hKP r3 r4 hday htime hzone hsd hst hsz hnd hnt hnz h5 hlv HMV hres HR3 hcap3
          go_wp2_with fail
          go_region_held3 (fun w' => Below wc.heap.size wc w' ∧ w'.cell? ⟨g3, off3, none⟩ = some (.string A) ∧ w'.cell? ⟨g3, off3 + 1, none⟩ = some (.string B) ∧ w'.cell? ⟨g3, off3 + 2, none⟩ = some (.string C))
            (refine ⟨?_, ?_, ?_, ?_⟩ <;> first | (with_reducible assumption) | (with_reducible exact Below.drew (by assumption)) | (with_reducible exact r0) | (with_reducible exact r1) | (with_reducible exact r2) | (with_reducible exact (HKP.out _ _ (by with_reducible assumption) (by first | with_reducible assumption | with_reducible exact And.left (by assumption))).1) | (with_reducible exact (HKP.out _ _ (by with_reducible assumption) (by first | with_reducible assumption | with_reducible exact And.left (by assumption))).2.1) | (with_reducible exact (HKP.out _ _ (by with_reducible assumption) (by first | with_reducible assumption | with_reducible exact And.left (by assumption))).2.2.1) | (with_reducible exact (HKP.out _ _ (by with_reducible assumption) (by first | with_reducible assumption | with_reducible exact And.left (by assumption))).2.2.2) | go_keep)
            (first
            | (go_at_call 19; go_must (refine (HDAY.out _ (HE3.out.kept (by first | with_reducible assumption | with_reducible exact And.left (by assumption)))).mono ?_; rintro e w2 ⟨rfl, hb2⟩)))
          have hbc : Below wc.heap.size wc w2 := by first | with_reducible assumption | with_reducible exact And.left (by assumption)
          have HBC := hide hbc
          have q3 : w2.cell? ⟨g3, off3 + 3, none⟩ = some (.string E) := (hbc.cell (p := ⟨g3, off3 + 3, none⟩) hg3).trans R3.out
          clear hbc hcb r0 r1 r2 hb2
          go_wp2_with fail
          refine (HTIME.out _ (HE3.out.kept HBC.out)).mono ?_
          rintro e w3 ⟨rfl, hb3⟩
          have hbc3 := HBC.out.trans (hb3.mono HBC.out.size)
          have HBC3 := hide hbc3
          have q4 : w3.cell? ⟨g3, off3 + 4, none⟩ = some (.string Z) := (hbc3.cell (p := ⟨g3, off3 + 4, none⟩) hg3).trans R4.out
          clear hbc3 hb3 q3
          go_wp2_with fail
          refine (HZONE.out _ (HE3.out.kept HBC3.out)).mono ?_
          rintro e w4 ⟨rfl, hb4⟩
          have hbc4 := HBC3.out.trans (hb4.mono HBC3.out.size)
          have HB9 := hide (HB3.out.trans (hbc4.mono HB3.out.size))
          clear hbc4 hb4 q4
          cases hx : ob DV
          · have HX := hide hx
            clear hx
            have HV : Hid (parV (parseO s.data.toList) = .tuple #[.int .i64 0, .int .i64 2]) := hide (by rw [HPAR.out, HND.out HX.out]; rfl)
            go_wp2_with fail
            go_ret2
            exact ⟨by rw [HV.out]; rfl, HB9.out⟩
          · have HX := hide hx
            clear hx
            cases hy : ob TV
            · have HY := hide hy
              clear hy
              have HV : Hid (parV (parseO s.data.toList) = .tuple #[.int .i64 0, .int .i64 2]) := hide (by rw [HPAR.out, HSD.out HX.out, HNT.out HY.out]; rfl)
              go_wp2_with fail
              go_ret2
              exact ⟨by rw [HV.out]; rfl, HB9.out⟩
            · have HY := hide hy
              clear hy
              cases hz : ob ZV
              · have HZ := hide hz
                clear hz
                have HV : Hid (parV (parseO s.data.toList) = .tuple #[.int .i64 0, .int .i64 2]) := hide (by rw [HPAR.out, HSD.out HX.out, HST.out HY.out, HNZ.out HZ.out]; rfl)
                go_wp2_with fail
                go_ret2
                exact ⟨by rw [HV.out]; rfl, HB9.out⟩
              · have HZ := hide hz
                clear hz
                have HV : Hid (parV (parseO s.data.toList) = .tuple #[.int .i64 (od DV * 86400 + od TV - od ZV), .int .i64 0]) := hide (by rw [HPAR.out, HSD.out HX.out, HST.out HY.out, HSZ.out HZ.out]; rfl)
                go_wp2_with fail
                go_ret2
                exact ⟨by rw [HV.out]; rfl, HB9.out⟩
        · have HV : Hid (parV (parseO s.data.toList) = .tuple #[.int .i64 0, .int .i64 2]) := hide (by rw [hres.out, readV_no V h5]; rfl)
          have t5 : ((V.length : Int) != 5) = true := by rw [bne_iff_ne]; omega
          clear h5
          go_wp2_with fail
          go_ret2
          exact ⟨by rw [HV.out]; rfl, HB3.out⟩
end Go.Proofs.YtiojfknphpnlhaaDoor
