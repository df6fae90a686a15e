/- WALK of the law AddrBack. No statement is proved here. -/
import Derived.Test.YtnckbdkofbhilaaGreatDoorAddrGoodLaw
import Derived.Deep.RegionHeld3
namespace Go.Proofs.YtnckbdkofbhilaaGreatDoor
open Go.RowKit
set_option linter.unusedVariables false
set_option linter.unusedSimpArgs false
set_option maxRecDepth 100000
theorem writeAll_ok {l : List BoxL} (h : l.all okBox = true) : writeAll l = (Lib.join (l.map wBox) [44, 32], 0) := by unfold writeAll; rw [h]; rfl
theorem writeAll_no {l : List BoxL} (h : l.all okBox = false) : writeAll l = ([], 1) := by unfold writeAll; rw [h]; rfl
def backL (l : List BoxL) : List BoxL := l.map fun b => (validL b.1, b.2)
theorem few_valid {l : List BoxL} (h : fewX l = true) : ∀ b ∈ l, b.1.length ≤ 300 ∧ b.2.length ≤ 300 := (few_fitsX h).2
set_option maxHeartbeats 4000000 in
theorem law_AddrBack (v : Value) (l : List BoxL) {w : World} (hl : BoxesIn w v l) (hE : Env w) :
    Calls Tryz.prog 5 #[v] w fun e w' => e = .returned (.bool true) ∧ Below w.heap.size w w' := by
  obtain ⟨A, cap, rfl⟩ := hl.form
  have HE := hide hE
  have HL := hide hl
  clear hl hE
  cases hf_l : fewX l with
  | false =>
    go_enter Tryz.func5, Tryz.ntmps5
    go_wp2_with fail
    refine (few08_any _ l _ HL.out).mono ?_
    rintro e wq ⟨rfl, rfl⟩
    rw [hf_l]
    go_wp2_with fail
    refine (live8_any _ HE.out).mono ?_
    rintro e wl ⟨rfl, hbl⟩
    go_wp2_with fail
    go_ret
    exact ⟨rfl, hbl⟩
  | true =>
  obtain ⟨hz, hn, hj⟩ := few_sizes hf_l
  obtain ⟨_, m, hm⟩ := HE.out
  have CW := hide (addrWrite_any _ l m w HL.out hz hn (Nat.le_trans hj (by decide)) hm)
  clear hm
  cases ho : l.all okBox with
  | false =>
    rw [writeAll_no ho] at CW
    simp only [] at CW
    rw [show str [] = (⟨#[]⟩ : ByteArray) from rfl] at CW
    clear ho hz hn hj
    go_enter Tryz.func5, Tryz.ntmps5
    go_wp2_with fail
    refine (few08_any _ l _ HL.out).mono ?_
    rintro e wq ⟨rfl, rfl⟩
    rw [hf_l]
    go_wp2_with fail
    refine CW.out.mono ?_
    rintro e w1 ⟨rfl, hb1⟩
    have K1 := hide hb1
    clear hb1
    go_wp2_with fail
    refine (live8_any _ (HE.out.kept K1.out)).mono ?_
    rintro e wl ⟨rfl, hbl⟩
    go_wp2_with fail
    go_ret
    exact ⟨rfl, K1.out.trans (hbl.mono K1.out.size)⟩
  | true =>
    rw [writeAll_ok ho] at CW
    simp only [] at CW
    obtain ⟨S, hS⟩ : ∃ S, S = str (Lib.join (l.map wBox) [44, 32]) := ⟨_, rfl⟩
    rw [← hS] at CW
    have zS : S.size ≤ 1048576 := by rw [hS, str_size]; exact Nat.le_trans hj (by decide)
    have hall : ∀ b ∈ l, okBox b = true := List.all_eq_true.1 ho
    have hP : parseL S = backL l := by rw [parseL_F, hS, str_toList, parse_back l hall]; rfl
    have CP := fun w1 h => hide (addrParse_any S w1 zS h)
    rw [hP] at CP
    obtain ⟨L, hL⟩ : ∃ L, L = backL l := ⟨_, rfl⟩
    rw [← hL] at CP
    have hlen : L.length = l.length := by rw [hL]; unfold backL; rw [List.length_map]
    have HG : Hid (∀ (k : Nat) (f : BoxL), l[k]? = some f → L[k]? = some (validL f.1, f.2)) := hide (fun k f hk => by rw [hL]; unfold backL; rw [List.getElem?_map, hk]; rfl)
    have HV := hide (few_valid hf_l)
    have hn40 : l.length ≤ 1048576 := hn
    clear ho hz hj hS zS hall hP hL hn
    go_enter Tryz.func5, Tryz.ntmps5
    go_wp2_with fail
    refine (few08_any _ l _ HL.out).mono ?_
    rintro e wq ⟨rfl, rfl⟩
    rw [hf_l]
    go_wp2_with fail
    refine CW.out.mono ?_
    rintro e w1 ⟨rfl, hb1⟩
    have K1 := hide hb1
    clear hb1
    go_wp2_with fail
    refine (CP _ (HE.out.kept K1.out).1).out.mono ?_
    rintro e w2 ⟨v2, rfl, hf2⟩
    obtain ⟨A2, c2, rfl⟩ := hf2.slice_len
    have K2 := hide (K1.out.trans (hf2.below.mono K1.out.size))
    have F2 := hide hf2.in
    have F1 := hide (HL.out.kept K2.out)
    clear hf2 CP CW K1 HL
    rw [hlen] at F2 ⊢
    have t0 : ((l.length : Int) != l.length) = false := by rw [bne, beq_self_eq_true]; rfl
    have t1 : ((l.length : Int) == l.length) = true := beq_self_eq_true _
    go_wp2_with fail
    go_loopw [6] (fun i wr => ∃ k : Nat, k ≤ l.length ∧ i = .int .i64 k ∧ Hid (Below w.heap.size w wr) ∧ Hid (BoxesIn wr (.slice A l.length cap) l) ∧ Hid (BoxesIn wr (.slice A2 l.length c2) L)) (fun i _ => l.length - (intOf i).toNat)
    case atStart => exact ⟨0, Nat.zero_le _, rfl, K2, F1, F2⟩
    case round =>
      obtain ⟨k, hk, rfl, HB, H1, H2⟩ := hrel
      by_cases hlt : k < l.length
      · obtain ⟨f, hf⟩ : ∃ f, l[k]? = some f := ⟨_, List.getElem?_eq_getElem hlt⟩
        have hg := HG.out k f hf
        obtain ⟨a, ha, hc1, hc2⟩ := H1.out.at k f hf
        obtain ⟨b, hb, hd1, hd2⟩ := H2.out.at k _ hg
        subst ha hb
        have z1 := (HV.out f (List.mem_of_getElem? hf)).1
        obtain ⟨X, hX⟩ : ∃ X, X = str f.1 := ⟨_, rfl⟩
        obtain ⟨Y, hY⟩ : ∃ X, X = str f.2 := ⟨_, rfl⟩
        obtain ⟨Z, hZ⟩ : ∃ X, X = str (validL f.1) := ⟨_, rfl⟩
        have CV := fun w2 => hide (valid_any X w2 (by rw [hX, str_size]; exact Nat.le_trans z1 (by decide)))
        have eV : str (validL X.data.toList) = Z := by rw [hX, str_toList, hZ]
        rw [eV] at CV
        simp only [] at hd1 hd2
        rw [← hX] at hc1
        rw [← hY] at hc2 hd2
        rw [← hZ] at hd1
        have lc1 := World.block_lt_of_cell? _ _ hc1
        have lc2 := World.block_lt_of_cell? _ _ hc2
        have ld1 := World.block_lt_of_cell? _ _ hd1
        have ld2 := World.block_lt_of_cell? _ _ hd2
        have HKP : Hid (∀ w2 w3, Below w2.heap.size w2 w3 → Below wr.heap.size wr w2 → Below wr.heap.size wr w3 ∧ w3.cell? (a.add (k * 2)) = some (.string X) ∧ w3.cell? { block := (a.add (k * 2)).block, off := (a.add (k * 2)).off + 1 } = some (.string Y) ∧ w3.cell? (b.add (k * 2)) = some (.string Z) ∧ w3.cell? { block := (b.add (k * 2)).block, off := (b.add (k * 2)).off + 1 } = some (.string Y)) := hide fun w2 w3 h3 h2 => by
          have hb := h2.trans (h3.mono h2.size)
          exact ⟨hb, (hb.cell lc1).trans hc1, (hb.cell lc2).trans hc2, (hb.cell ld1).trans hd1, (hb.cell ld2).trans hd2⟩
        have hcb := Below.refl wr.heap.size wr
        clear lc1 lc2 ld1 ld2
        have q1 : (Y.toList == Y.toList) = true := beq_self_eq_true _
        have q2 : (Y.toList != Y.toList) = false := by rw [bne, q1]; rfl
        have q3 : (Z.toList == Z.toList) = true := beq_self_eq_true _
        have q4 : (Z.toList != Z.toList) = false := by rw [bne, q3]; rfl
        clear hf hg z1 hX hY hZ eV
        go_wp2_with fail
        go_region_held3 (fun w' => Below wr.heap.size wr w' ∧ w'.cell? (a.add (k * 2)) = some (.string X) ∧ w'.cell? { block := (a.add (k * 2)).block, off := (a.add (k * 2)).off + 1 } = some (.string Y) ∧ w'.cell? (b.add (k * 2)) = some (.string Z) ∧ w'.cell? { block := (b.add (k * 2)).block, off := (b.add (k * 2)).off + 1 } = some (.string Y))
          (refine ⟨?_, ?_, ?_, ?_, ?_⟩ <;> first | (with_reducible assumption) | (with_reducible exact Below.drew (by assumption)) | (with_reducible exact (HKP.out _ _ (by with_reducible assumption) (by first | with_reducible assumption | with_reducible exact And.left (by assumption))).1) | (with_reducible exact (HKP.out _ _ (by with_reducible assumption) (by first | with_reducible assumption | with_reducible exact And.left (by assumption))).2.1) | (with_reducible exact (HKP.out _ _ (by with_reducible assumption) (by first | with_reducible assumption | with_reducible exact And.left (by assumption))).2.2.1) | (with_reducible exact (HKP.out _ _ (by with_reducible assumption) (by first | with_reducible assumption | with_reducible exact And.left (by assumption))).2.2.2.1) | (with_reducible exact (HKP.out _ _ (by with_reducible assumption) (by first | with_reducible assumption | with_reducible exact And.left (by assumption))).2.2.2.2) | go_keep)
          (first
          | (go_at_call 25; go_must (refine (CV _).out.mono ?_; rintro e w3 ⟨rfl, hb3⟩)))
        have hbc : Below wr.heap.size wr w3 := by first | with_reducible assumption | with_reducible exact And.left (by assumption)
        have HB3 := hide hbc
        clear hbc
        go_wp2_with fail
        go_roundw
        case rel => exact ⟨k + 1, by omega, by go_num, hide (HB.out.trans (HB3.out.mono HB.out.size)), hide (H1.out.kept HB3.out), hide (H2.out.kept HB3.out)⟩
        case measure => simp [intOf]; omega
      · go_wp2_with fail
        refine (live8_any _ (HE.out.kept HB.out)).mono ?_
        rintro e wl ⟨rfl, hbl⟩
        go_wp2_with fail
        go_ret
        exact ⟨rfl, HB.out.trans (hbl.mono HB.out.size)⟩
end Go.Proofs.YtnckbdkofbhilaaGreatDoor
