/- WALK of the law ParamBack. No statement is proved here. -/
import Derived.Test.YtienjpelmbldpaaGreatDoorRef07S
import Derived.Test.YtienjpelmbldpaaGreatDoorParT
import Derived.Deep.RegionHeld3
namespace Go.Proofs.YtienjpelmbldpaaGreatDoor
open Go.RowKit
set_option linter.unusedVariables false
set_option linter.unusedSimpArgs false
set_option maxRecDepth 100000
theorem wrL_len (l : List UInt8) : (wrL l).length ≤ 3 * l.length + 12 := by
  unfold wrL
  split
  · have := escL_length l
    unfold quoteL
    simp only [List.length_cons, List.length_append, List.length_nil]
    omega
  · have := (penc_length l).2
    simp only [List.length_cons, List.length_append, List.length_nil]
    omega
theorem parTs_len (l : List ParL) (h : ∀ f ∈ l, f.1.length ≤ 300 ∧ f.2.length ≤ 300) : (parTs l).length ≤ 1300 * l.length := by
  induction l with
  | nil => exact Nat.le_refl _
  | cons p r ih =>
    have e : parTs (p :: r) = parT p ++ parTs r := rfl
    have h1 := ih (fun f hf => h f (List.mem_cons_of_mem _ hf))
    have h2 := h p (List.mem_cons_self ..)
    have h3 := wrL_len p.2
    rw [e, List.length_append, List.length_cons]
    unfold parT
    simp only [List.length_cons, List.length_append, List.length_nil]
    omega
theorem few_sizesQ {l : List ParL} (h : fewQ l = true) (m : ByteArray) (hm : m.size ≤ 1500) : (∀ p ∈ l, p.1.length ≤ 1048576 ∧ p.2.length ≤ 100000) ∧ l.length ≤ 999999 ∧ (m.data.toList ++ parTs l).length ≤ 100000 := by
  obtain ⟨h1, h2⟩ := few_fitsQ h
  refine ⟨fun p hp => ?_, by omega, ?_⟩
  · have := h2 p hp; omega
  · have := parTs_len l h2
    rw [List.length_append, toList_length]; omega
theorem wrP_ok {main : List UInt8} {l : List ParL} (h : (mainB main && okPs [] l) = true) : wrP main l = (main ++ parTs l, 0) := by unfold wrP; rw [h]; rfl
theorem wrP_no {main : List UInt8} {l : List ParL} (h : (mainB main && okPs [] l) = false) : wrP main l = ([], 1) := by unfold wrP; rw [h]; rfl
def backQ (l : List ParL) : List ParL := l.map fun p => (p.1, validL p.2)
set_option maxHeartbeats 4000000 in
theorem law_ParamBack (s : ByteArray) (hss : s.size ≤ maxLen) (v : Value) (l : List ParL) {w : World} (hl : ParsIn w v l) (hE : EnvP w) :
    Calls Tryz.prog 5 #[.string s, v] w fun e w' => e = .returned (.bool true) ∧ Below w.heap.size w w' := by
  obtain ⟨A, cap, rfl⟩ := hl.form
  have HE := hide hE
  have HL := hide hl
  clear hl hE hss
  rcases Nat.lt_or_ge 1500 s.size with hq | hs
  · have HD : Hid (decide (s.size ≤ 1500) = false) := hide (decide_eq_false (by omega))
    clear hq
    go_enter Tryz.func5, Tryz.ntmps5
    go_wp2_with fail
    refine (short07_any s _).mono ?_
    rintro e wq ⟨rfl, rfl⟩
    rw [HD.out]
    go_wp2_with fail
    refine (live07_any _ HE.out).mono ?_
    rintro e wl ⟨rfl, hbl⟩
    go_wp2_with fail
    go_ret
    exact ⟨rfl, hbl⟩
  have HD : Hid (decide (s.size ≤ 1500) = true) := hide (decide_eq_true hs)
  cases hf_l : fewQ l with
  | false =>
    clear hs
    go_enter Tryz.func5, Tryz.ntmps5
    go_wp2_with fail
    refine (short07_any s _).mono ?_
    rintro e wq ⟨rfl, rfl⟩
    rw [HD.out]
    go_wp2_with fail
    refine (few07_any _ l _ HL.out).mono ?_
    rintro e wq ⟨rfl, rfl⟩
    rw [hf_l]
    go_wp2_with fail
    refine (live07_any _ HE.out).mono ?_
    rintro e wl ⟨rfl, hbl⟩
    go_wp2_with fail
    go_ret
    exact ⟨rfl, hbl⟩
  | true =>
  obtain ⟨hz, hn, hj⟩ := few_sizesQ hf_l s hs
  obtain ⟨m, hm⟩ := HE.out.2.1
  have CW := hide (write07_any s _ l m w HL.out (Nat.le_trans hs (by decide)) hz hn (Nat.le_trans hj (by decide)) hm)
  clear hm
  cases ho : (mainB s.data.toList && okPs [] l) with
  | false =>
    rw [wrP_no ho] at CW
    simp only [] at CW
    rw [show str [] = (⟨#[]⟩ : ByteArray) from rfl] at CW
    clear ho hz hn hj hs
    go_enter Tryz.func5, Tryz.ntmps5
    go_wp2_with fail
    refine (short07_any s _).mono ?_
    rintro e wq ⟨rfl, rfl⟩
    rw [HD.out]
    go_wp2_with fail
    refine (few07_any _ l _ HL.out).mono ?_
    rintro e wq ⟨rfl, rfl⟩
    rw [hf_l]
    go_wp2_with fail
    refine CW.out.mono ?_
    rintro e w1 ⟨rfl, hb1⟩
    have K1 := hide hb1
    clear hb1
    go_wp2_with fail
    refine (live07_any _ (HE.out.kept K1.out)).mono ?_
    rintro e wl ⟨rfl, hbl⟩
    go_wp2_with fail
    go_ret
    exact ⟨rfl, K1.out.trans (hbl.mono K1.out.size)⟩
  | true =>
    rw [wrP_ok ho] at CW
    simp only [] at CW
    obtain ⟨S, hS⟩ : ∃ S, S = str (s.data.toList ++ parTs l) := ⟨_, rfl⟩
    rw [← hS] at CW
    rw [Bool.and_eq_true] at ho
    have zS : S.size ≤ 200000 := by rw [hS, str_size]; exact Nat.le_trans hj (by decide)
    have hP : parsP S.data.toList = (s.data.toList, backQ l) := by rw [hS, str_toList, pars_back ho.1 ho.2]; rfl
    have CP := fun w1 h => hide (parse07 S w1 zS h)
    rw [hP] at CP
    simp only [] at CP
    rw [str_of] at CP
    obtain ⟨L, hL⟩ : ∃ L, L = backQ l := ⟨_, rfl⟩
    rw [← hL] at CP
    have hlen : L.length = l.length := by rw [hL]; unfold backQ; rw [List.length_map]
    have HG : Hid (∀ (k : Nat) (f : ParL), l[k]? = some f → L[k]? = some (f.1, validL f.2)) := hide (fun k f hk => by rw [hL]; unfold backQ; rw [List.getElem?_map, hk]; rfl)
    have HV := hide (few_fitsQ hf_l).2
    have hn40 : l.length ≤ 1048576 := Nat.le_trans hn (by decide)
    clear ho hz hj hS zS hP hL hn
    have r1 : (s.toList == s.toList) = true := beq_self_eq_true _
    have r2 : (s.toList != s.toList) = false := by rw [bne, r1]; rfl
    go_enter Tryz.func5, Tryz.ntmps5
    go_wp2_with fail
    refine (short07_any s _).mono ?_
    rintro e wq ⟨rfl, rfl⟩
    rw [HD.out]
    go_wp2_with fail
    refine (few07_any _ l _ HL.out).mono ?_
    rintro e wq ⟨rfl, rfl⟩
    rw [hf_l]
    go_wp2_with fail
    refine CW.out.mono ?_
    rintro e w1 ⟨rfl, hb1⟩
    have K1 := hide hb1
    clear hb1
    go_wp2_with fail
    refine (CP _ (HE.out.kept K1.out)).out.mono ?_
    rintro e w2 ⟨v2, rfl, hf2⟩
    obtain ⟨A2, c2, rfl⟩ := hf2.slice_len
    have K2 := hide (K1.out.trans (hf2.below.mono K1.out.size))
    have F2 := hide hf2.in
    have F1 := hide (HL.out.kept K2.out)
    clear hf2 CP CW K1 HL hs
    rw [hlen] at F2 ⊢
    have t0 : ((l.length : Int) != l.length) = false := by rw [bne, beq_self_eq_true]; rfl
    have t1 : ((l.length : Int) == l.length) = true := beq_self_eq_true _
    go_wp2_with fail
    go_loopw [9] (fun i wr => ∃ k : Nat, k ≤ l.length ∧ i = .int .i64 k ∧ Hid (Below w.heap.size w wr) ∧ Hid (ParsIn wr (.slice A l.length cap) l) ∧ Hid (ParsIn wr (.slice A2 l.length c2) L)) (fun i _ => l.length - (intOf i).toNat)
    case atStart => exact ⟨0, Nat.zero_le _, rfl, K2, F1, F2⟩
    case round =>
      obtain ⟨k, hk, rfl, HB, H1, H2⟩ := hrel
      by_cases hlt : k < l.length
      · obtain ⟨f, hf⟩ : ∃ f, l[k]? = some f := ⟨_, List.getElem?_eq_getElem hlt⟩
        have hg := HG.out k f hf
        obtain ⟨a, ha, hc1, hc2⟩ := H1.out.at k f hf
        obtain ⟨b, hb, hd1, hd2⟩ := H2.out.at k _ hg
        subst ha hb
        have z1 := (HV.out f (List.mem_of_getElem? hf)).2
        obtain ⟨X, hX⟩ : ∃ X, X = str f.2 := ⟨_, rfl⟩
        obtain ⟨Y, hY⟩ : ∃ X, X = str f.1 := ⟨_, rfl⟩
        obtain ⟨Z, hZ⟩ : ∃ X, X = str (validL f.2) := ⟨_, rfl⟩
        have CV := fun w2 => hide (valid_any X w2 (by rw [hX, str_size]; exact Nat.le_trans z1 (by decide)))
        have eV : str (validL X.data.toList) = Z := by rw [hX, str_toList, hZ]
        rw [eV] at CV
        simp only [] at hd1 hd2
        rw [← hX] at hc2
        rw [← hY] at hc1 hd1
        rw [← hZ] at hd2
        have lc1 := World.block_lt_of_cell? _ _ hc1
        have lc2 := World.block_lt_of_cell? _ _ hc2
        have ld1 := World.block_lt_of_cell? _ _ hd1
        have ld2 := World.block_lt_of_cell? _ _ hd2
        have HKP : Hid (∀ w2 w3, Below w2.heap.size w2 w3 → Below wr.heap.size wr w2 → Below wr.heap.size wr w3 ∧ w3.cell? (a.add (k * 2)) = some (.string Y) ∧ w3.cell? { block := (a.add (k * 2)).block, off := (a.add (k * 2)).off + 1 } = some (.string X) ∧ w3.cell? (b.add (k * 2)) = some (.string Y) ∧ w3.cell? { block := (b.add (k * 2)).block, off := (b.add (k * 2)).off + 1 } = some (.string Z)) := hide fun w2 w3 h3 h2 => by
          have hb := h2.trans (h3.mono h2.size)
          exact ⟨hb, (hb.cell lc1).trans hc1, (hb.cell lc2).trans hc2, (hb.cell ld1).trans hd1, (hb.cell ld2).trans hd2⟩
        have hcb := Below.refl wr.heap.size wr
        clear lc1 lc2 ld1 ld2
        have q1 : (Y.toList == Y.toList) = true := beq_self_eq_true _
        have q2 : (Y.toList != Y.toList) = false := by rw [bne, q1]; rfl
        have q3 : (Z.toList == Z.toList) = true := beq_self_eq_true _
        have q4 : (Z.toList != Z.toList) = false := by rw [bne, q3]; rfl
        clear hf hg z1 hX hY hZ eV
        go_wp2_with fail
        go_region_held3 (fun w' => Below wr.heap.size wr w' ∧ w'.cell? (a.add (k * 2)) = some (.string Y) ∧ w'.cell? { block := (a.add (k * 2)).block, off := (a.add (k * 2)).off + 1 } = some (.string X) ∧ w'.cell? (b.add (k * 2)) = some (.string Y) ∧ w'.cell? { block := (b.add (k * 2)).block, off := (b.add (k * 2)).off + 1 } = some (.string Z))
          (refine ⟨?_, ?_, ?_, ?_, ?_⟩ <;> first | (with_reducible assumption) | (with_reducible exact Below.drew (by assumption)) | (with_reducible exact (HKP.out _ _ (by with_reducible assumption) (by first | with_reducible assumption | with_reducible exact And.left (by assumption))).1) | (with_reducible exact (HKP.out _ _ (by with_reducible assumption) (by first | with_reducible assumption | with_reducible exact And.left (by assumption))).2.1) | (with_reducible exact (HKP.out _ _ (by with_reducible assumption) (by first | with_reducible assumption | with_reducible exact And.left (by assumption))).2.2.1) | (with_reducible exact (HKP.out _ _ (by with_reducible assumption) (by first | with_reducible assumption | with_reducible exact And.left (by assumption))).2.2.2.1) | (with_reducible exact (HKP.out _ _ (by with_reducible assumption) (by first | with_reducible assumption | with_reducible exact And.left (by assumption))).2.2.2.2) | go_keep)
          (first
          | (go_at_call 18; go_must (refine (CV _).out.mono ?_; rintro e w3 ⟨rfl, hb3⟩)))
        have hbc : Below wr.heap.size wr w3 := by first | with_reducible assumption | with_reducible exact And.left (by assumption)
        have HB3 := hide hbc
        clear hbc
        go_wp2_with fail
        go_roundw
        case rel => exact ⟨k + 1, by omega, by go_num, hide (HB.out.trans (HB3.out.mono HB.out.size)), hide (H1.out.kept HB3.out), hide (H2.out.kept HB3.out)⟩
        case measure => simp [intOf]; omega
      · go_wp2_with fail
        refine (live07_any _ (HE.out.kept HB.out)).mono ?_
        rintro e wl ⟨rfl, hbl⟩
        go_wp2_with fail
        go_ret
        exact ⟨rfl, HB.out.trans (hbl.mono HB.out.size)⟩
end Go.Proofs.YtienjpelmbldpaaGreatDoor
