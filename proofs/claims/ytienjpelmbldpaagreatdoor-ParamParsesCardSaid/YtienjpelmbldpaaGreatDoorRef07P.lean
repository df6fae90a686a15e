/- WALK of the reference of layer 7: Parse. No statement is proved here. -/
import Derived.Test.YtienjpelmbldpaaGreatDoorRef07V
import Derived.Test.YtienjpelmbldpaaGreatDoorRef07R
import Derived.Test.YtienjpelmbldpaaGreatDoorRef07Q
import Derived.Test.YtienjpelmbldpaaGreatDoorPBuf
namespace Go.Proofs.YtienjpelmbldpaaGreatDoor
open Go.RowKit
set_option linter.unusedVariables false
set_option linter.unusedSimpArgs false
set_option maxRecDepth 100000
theorem rlL_snoc (l : List (List UInt8)) (k : Nat) (p : List UInt8) (h : l[k]? = some p) : rlL (l.take (k + 1)) = rlL (l.take k) ++ (match rlStep p with | some e => [e] | none => []) := by
  unfold rlL
  rw [List.take_add_one, h, List.filterMap_append]
  cases hp : rlStep p <;> simp [hp]
theorem rawV_some {p : List UInt8} {e : ParL} (h : rlStep p = some e) : rawV p = .tuple #[.string (str e.1), .string (str e.2), .bool true] ∧ e.1 ≠ [] := by
  unfold rlStep at h
  split at h
  · rename_i hc
    injection h with h
    subst h
    exact ⟨by unfold rawV; rw [if_pos hc.1], hc.2⟩
  · cases h
theorem rawV_none {p : List UInt8} (h : rlStep p = none) : rawV p = .tuple #[.string ⟨#[]⟩, .string ⟨#[]⟩, .bool false] ∨ ∃ V, V.size ≤ p.length ∧ rawV p = .tuple #[.string ⟨#[]⟩, .string V, .bool true] := by
  unfold rlStep at h
  split at h
  · cases h
  · rename_i hc
    by_cases h1 : hasC 61 p = true
    · refine .inr ⟨str (rvL (afterC 61 p)), ?_, ?_⟩
      · rw [str_size]
        have h3 := rvL_length (afterC 61 p)
        have h4 := afterC_length 61 p
        omega
      · have h2 : tsL (beforeC 61 p) = [] := Classical.byContradiction fun h2 => hc ⟨h1, h2⟩
        unfold rawV
        rw [if_pos h1, h2]; rfl
    · exact .inl (by unfold rawV; rw [if_neg h1])
/-- the second half of Parse: the names, each once, with their values -/
theorem base_cut {X : ByteArray} {k : Nat} (hk : k < X.size) (h42 : X[k] = 42) (hn : ∀ c ∈ X.data.toList.take k, c ≠ 42) : beforeC 42 X.data.toList = beforeC 42 (X.extract 0 k).data.toList ∧ ∀ c ∈ (X.extract 0 k).data.toList, c ≠ 42 := by
  have e : X.data.toList = X.data.toList.take k ++ 42 :: X.data.toList.drop (k + 1) := by
    conv => lhs; rw [← List.take_append_drop k X.data.toList, drop_cons X k hk, h42]
  have hnm : (42 : UInt8) ∉ X.data.toList.take k := fun hm => hn 42 hm rfl
  have e2 : (X.extract 0 k).data.toList = X.data.toList.take k := by rw [extract_list, List.drop_zero]
  refine ⟨?_, fun c hc => hn c (by rw [← e2]; exact hc)⟩
  rw [e2, (cut_none 42 _ hnm).1]
  rw [e, (cut_here 42 _ _ hnm).1, ← e]
set_option maxHeartbeats 16000000 in
theorem refParse07_any (s : ByteArray) (w : World) (hs : s.size ≤ 200000) :
    Calls Tryz.prog 11 #[.string s] w fun e w' => ∃ v, e = .returned (.tuple #[.string (str (parsP s.data.toList).1), v]) ∧ PBuf w.heap.size v (parsP s.data.toList).2 w w' := by
  have HP := hide (pieces07_any s w (by omega))
  have hz0 := pcL_sizes s.data.toList.length s.data.toList [] (Nat.le_refl _)
  have hz1 := wPs_tail (pcL [] s.data.toList)
  rw [toList_length] at hz0
  simp only [List.length_nil] at hz0
  obtain ⟨r1, r2, r3⟩ := rlL_sizes (pcL [] s.data.toList).tail
  have HSZ : Hid ((∀ p ∈ pcL [] s.data.toList, p.length ≤ 1048576) ∧ wAll (rlL (pcL [] s.data.toList).tail) ≤ 900000 ∧ (∀ e ∈ rlL (pcL [] s.data.toList).tail, e.1.length ≤ 1048576 ∧ e.2.length ≤ 1048576)) := hide ⟨fun p hp => by have := mem_wPs hp; omega, by omega, fun e he => by have := r3 e he; omega⟩
  have HPP := hide (pars_ref s.data.toList)
  clear hz0 hz1 r1 r2 r3
  go_enter Tryz.func11, Tryz.ntmps11
  go_wp2_with fail
  refine HP.out.mono ?_
  rintro e w1 ⟨v1, ps, rfl, hb1, hps, hl1, hl2⟩
  rcases hb1.form with ⟨_, hnil⟩ | ⟨g, cap, rfl, hc1, hc2, hg1, hg2, hcells⟩
  · rw [hnil] at hl1; exact absurd hl1 (by decide)
  obtain ⟨p0, pt, rfl⟩ : ∃ p0 pt, ps = p0 :: pt := by
    cases ps with
    | nil => exact absurd hl1 (by decide)
    | cons a b => exact ⟨a, b, rfl⟩
  have hpt : (pcL [] s.data.toList).tail = pt.map (fun x => x.data.toList) := by rw [← hps]; rfl
  have hp0 : (pcL [] s.data.toList).headD [] = p0.data.toList := by rw [← hps]; rfl
  have hzp : p0.size ≤ 1048576 := by rw [← toList_length]; exact HSZ.out.1 _ (by rw [← hps]; simp)
  have HPZ : Hid (∀ x ∈ pt, x.size ≤ 1048576) := hide (fun x hx => by
    rw [← toList_length]
    exact HSZ.out.1 _ (by rw [← hps]; exact List.mem_map.2 ⟨x, List.mem_cons_of_mem _ hx, rfl⟩))
  rw [hpt] at HSZ
  rw [hpt, hp0] at HPP
  have HC0 : Hid (w1.cell? ⟨g, 0, none⟩ = some (.string p0)) := hide (by have := hcells 0 p0 rfl; simpa using this)
  have HCJ : Hid (∀ j (h : j < pt.length), w1.cell? ⟨g, j + 1, none⟩ = some (.string pt[j])) := hide (fun j hj => by
    have := hcells (j + 1) pt[j] (by simp [hj])
    rw [Nat.zero_add] at this; exact this)
  have HG2 := hide hg2
  obtain ⟨N, hN⟩ : ∃ N, N = (p0 :: pt).length := ⟨_, rfl⟩
  have hlen : (N : Int) = (pt.length : Int) + 1 := by rw [hN]; simp only [List.length_cons]; omega
  have hptl : pt.length ≤ 200000 := by simp only [List.length_cons] at hl2; omega
  have hcapI : (N : Int) ≤ cap := by rw [hN]; omega
  have K1 := hide hb1.below
  obtain ⟨PT, hPT⟩ : ∃ PT, PT = pt.map (fun x => x.data.toList) := ⟨_, rfl⟩
  rw [← hPT] at HSZ HPP
  have HPT := hide hPT
  have TR := hide (fun (w : World) => trim07_any p0 w (by unfold maxLen; omega))
  obtain ⟨T, hT⟩ : ∃ T, T = str (trP p0.data.toList) := ⟨_, rfl⟩
  have hTz : T.size ≤ 1048576 := by rw [hT, str_size]; have := trP_length p0.data.toList; rw [toList_length] at this; omega
  have SM := hide (fun (w : World) => small_any T w (by omega))
  rw [show str (lowL T.data.toList) = str (tsL p0.data.toList) by rw [hT, str_toList]; rfl] at SM
  rw [← hT] at TR
  have HL0 := hide (PBuf.nil (Below.refl w1.heap.size w1) (Nat.le_refl _))
  clear hb1 hps hl1 hl2 hc1 hc2 hg1 hg2 hcells hpt hp0 hPT hT hTz
  rw [← hN]
  have HLEN := hide hlen
  have hN1 : (1 : Int) ≤ N := by omega
  clear hN hlen
  go_wp2_with fail
  go_loopw [5, 6] (fun lv iv wr => ∃ (k : Nat) (L : List ParL), k ≤ pt.length ∧ iv = .int .i64 ((k : Int) + 1) ∧ Hid (PBuf w1.heap.size lv L w1 wr) ∧ Hid (L = rlL (PT.take k)) ∧ Hid (L.length ≤ k)) (fun _ iv _ => pt.length + 1 - (intOf iv).toNat)
  case atStart => exact ⟨0, [], Nat.zero_le _, rfl, HL0, hide rfl, hide (Nat.le_refl _)⟩
  case round =>
    obtain ⟨k, L, hk, rfl, HB, HL, HLL⟩ := hrel
    have hBw := HB.out.below
    by_cases hlt : k < pt.length
    · have t0 : decide ((k : Int) + 1 < (N : Int)) = true := decide_eq_true (by have := HLEN.out; omega)
      have t0i : (k : Int) + 1 < (N : Int) := by have := HLEN.out; omega
      have ck := (hBw.cell (p := ⟨g, k + 1, none⟩) HG2.out).trans (HCJ.out k hlt)
      obtain ⟨P, hP⟩ : ∃ P, P = pt[k]'hlt := ⟨_, rfl⟩
      rw [← hP] at ck
      have hPz : P.size ≤ 1048576 := by rw [hP]; exact HPZ.out _ (List.getElem_mem _)
      have hkn : PT[k]? = some P.data.toList := by rw [HPT.out, hP]; simp [hlt]
      have CR := hide (fun (w : World) => raw07_any P w hPz)
      have hsn := rlL_snoc PT k _ hkn
      have n1 : ((k : Int) + 1).toNat = k + 1 := by omega
      have HLT := hide hlt
      have k6 : k < 1000000 := by omega
      cases hr : rlStep P.data.toList with
      | none =>
        rw [hr] at hsn
        have HLN : Hid (L = rlL (PT.take (k + 1))) := hide (by rw [hsn, ← HL.out]; simp)
        rcases rawV_none hr with hv | ⟨V, hVz, hv⟩
        all_goals
          rw [hv] at CR
          clear hr hv hsn hkn hP hPz
          go_wp2_with (go_at_call 24; refine (CR.out _).mono ?_; rintro e w5 ⟨rfl, hb5⟩; have HB5 := hide (HB.out.kept hb5); clear hb5)
          go_roundw
          case rel => exact ⟨k + 1, L, HLT.out, by go_num, HB5, HLN, hide (by have := HLL.out; omega)⟩
          case measure => simp [intOf]; have := HLT.out; omega
      | some x =>
        rw [hr] at hsn
        obtain ⟨hv, hx0⟩ := rawV_some hr
        rw [hv] at CR
        obtain ⟨X1, hX1⟩ : ∃ X1, X1 = str x.1 := ⟨_, rfl⟩
        obtain ⟨X2, hX2⟩ : ∃ X2, X2 = str x.2 := ⟨_, rfl⟩
        rw [← hX1, ← hX2] at CR
        have s2 : X1.toList.isEmpty = false := by
          rw [hX1, str_list]
          cases hx1 : x.1 with
          | nil => exact absurd hx1 hx0
          | cons _ _ => rfl
        have HLN : Hid (L ++ [x] = rlL (PT.take (k + 1))) := hide (by rw [hsn, ← HL.out])
        have HXX := hide (And.intro hX1 hX2)
        clear hr hv hsn hkn hP hPz hx0 hX1 hX2
        go_wp2_with (first
          | (go_at_call 24; refine (CR.out _).mono ?_; rintro e w5 ⟨rfl, hb5⟩; have HB5 := hide (HB.out.kept hb5); clear hb5)
          | (at_builtin; go_must (refine wpList_pars rfl _ _ rfl w1.heap.size u5 L rfl w1 x (HB5.out.alloc _) ⟨w5.heap.size, 0, none⟩ rfl (by rw [Addr.add_lit, World.cell?_alloc_at _ _ _ _ rfl]; show some (Value.string X1) = some (Value.string (str x.1)); rw [← HXX.out.1]) (by rw [Addr.add_lit, World.cell?_alloc_at _ _ _ _ rfl]; show some (Value.string X2) = some (Value.string (str x.2)); rw [← HXX.out.2]) (by have := HLL.out; omega) ?_; intro v6 w6 hb6; have HB6 := hide hb6; clear hb6)))
        go_roundw
        case rel => exact ⟨k + 1, _, HLT.out, by go_num, HB6, HLN, hide (by have := HLL.out; simp; omega)⟩
        case measure => simp [intOf]; have := HLT.out; omega
    · have t0 : decide ((k : Int) + 1 < (N : Int)) = false := decide_eq_false (by have := HLEN.out; omega)
      have hke : k = pt.length := by omega
      have hL : L = rlL PT := by
        have := HL.out
        rw [hke, HPT.out, List.take_of_length_le (by simp)] at this
        rw [HPT.out]; exact this
      rw [← hL] at HSZ HPP
      obtain ⟨A2, c2, hlv⟩ := HB.out.slice_len
      have HIN := hide HB.out.in
      have HW2 := hide (K1.out.trans (HB.out.below.mono K1.out.size))
      have HC02 := hide ((HB.out.below.cell (p := ⟨g, 0, none⟩) HG2.out).trans HC0.out)
      have HG3 : Hid (g < wr.heap.size) := hide (Nat.lt_of_lt_of_le HG2.out HB.out.below.size)
      obtain ⟨w2, hw2⟩ : ∃ w2, w2 = wr := ⟨_, rfl⟩
      have hLn : L.length ≤ 200000 := by have := HLL.out; omega
      have HO0 := hide (PBuf.nil (Below.refl wr.heap.size wr) (Nat.le_refl _))
      have HSEC : Hid (∀ nm, SecOK (getP L) nm (nSec (getP L) nm)) := hide (fun nm => secOK_of (getP_ents L) HSZ.out.2.1 nm)
      have HF : Hid (∀ k x, getP L k = some x → x.length ≤ 1048576) := hide (fun k x h => (HSZ.out.2.2 _ (getP_mem h)).2)
      rw [← hw2] at HIN HW2 HC02 HG3 HO0
      subst hlv
      clear hL hke HL HLL HB hBw HCJ HC0 HG2 K1 HL0
      go_wp2_with fail
      rw [← hw2]
      clear hw2
      go_loopw [10, 11] (fun ov iv wr => ∃ (k : Nat) (O : List ParL), k ≤ L.length ∧ iv = .int .i64 k ∧ Hid (PBuf w2.heap.size ov O w2 wr) ∧ Hid (O = outAt L k) ∧ Hid (O.length ≤ k)) (fun _ iv _ => L.length - (intOf iv).toNat)
      case atStart => exact ⟨0, [], Nat.zero_le _, rfl, HO0, hide rfl, hide (Nat.le_refl _)⟩
      case round =>
        obtain ⟨k, O, hk, rfl, HB, HO, HOL⟩ := hrel
        have hBw := HB.out.below
        have k6 : k ≤ 1000000 := by omega
        by_cases hlt : k < L.length
        · obtain ⟨e, he⟩ : ∃ e, L[k]? = some e := ⟨_, List.getElem?_eq_getElem hlt⟩
          obtain ⟨a, ha, c0, c1⟩ := (HIN.out.kept hBw).at k e he
          subst ha
          obtain ⟨N0, hN0⟩ : ∃ N0, N0 = str e.1 := ⟨_, rfl⟩
          rw [← hN0] at c0
          have hN0z : N0.size ≤ 1048576 := by rw [hN0, str_size]; exact (HSZ.out.2.2 e (List.mem_of_getElem? he)).1
          have HN0 : Hid (beforeC 42 N0.data.toList = baseL e) := hide (by rw [hN0, str_toList]; rfl)
          have HOS := hide (outAt_succ he)
          have HE := hide he
          have HLT := hide hlt
          clear hN0 he
          go_wp2_with fail
          go_loopw [12, 13] (fun nv jv wr => ∃ (X : ByteArray) (j : Nat), nv = .string X ∧ jv = .int .i64 j ∧ X.size ≤ 1048576 ∧ j ≤ X.size + 1 ∧ Hid (∀ c ∈ X.data.toList.take j, c ≠ 42) ∧ Hid (beforeC 42 X.data.toList = baseL e) ∧ Hid (PBuf w2.heap.size u10 O w2 wr)) (fun nv jv _ => sz7 nv + 1 - (intOf jv).toNat)
          case atStart => exact ⟨N0, 0, rfl, rfl, hN0z, Nat.zero_le _, hide (by simp), HN0, HB⟩
          case round =>
            obtain ⟨X, j, rfl, rfl, hXz, hj, HN, HX, HB⟩ := hrel
            clear c0 c1 hBw
            by_cases hjl : j < X.size
            · by_cases h42 : X[j] = 42
              · have t0 : ((X[j].toNat : Int) == 42) = true := tT 42 h42 (by omega)
                obtain ⟨b1, b2⟩ := base_cut hjl h42 HN.out
                have HX2 : Hid (beforeC 42 (X.extract 0 j).data.toList = baseL e) := hide (by rw [← b1]; exact HX.out)
                have HN2 : Hid (∀ c ∈ (X.extract 0 j).data.toList.take (j + 1), c ≠ 42) := hide (fun c hc => b2 c (List.mem_of_mem_take hc))
                have k2 : (j : Int) ≤ X.size := by omega
                have hez : (X.extract 0 j).size = j := by rw [ByteArray.size_extract]; omega
                clear h42 b1 b2
                go_wp2_with fail
                go_roundw
                case rel => exact ⟨_, j + 1, rfl, by go_num, by omega, by omega, HN2, HX2, HB⟩
                case measure => simp [intOf, sz7]; omega
              · have t0 : ((X[j].toNat : Int) == 42) = false := tF 42 h42 (by omega)
                have HNN : Hid (∀ c ∈ X.data.toList.take (j + 1), c ≠ 42) := hide (by
                  intro c hc
                  rw [take_snoc X j hjl, List.mem_append, List.mem_singleton] at hc
                  rcases hc with hc | rfl
                  · exact HN.out c hc
                  · exact h42)
                clear h42
                go_wp2_with fail
                go_roundw
                case rel => exact ⟨X, j + 1, rfl, by go_num, hXz, by omega, HNN, HX, HB⟩
                case measure => simp [intOf, sz7]; omega
            · have hXe : X.data.toList = baseL e := by
                have h1 := HN.out
                rw [List.take_of_length_le (by rw [toList_length]; omega)] at h1
                rw [← HX.out, (cut_none 42 _ (fun hm => h1 42 hm rfl)).1]
              have HXE := hide hXe
              obtain ⟨b0, hb0⟩ : ∃ b0, b0 = decide (baseL e = [] ∨ baseL e ∈ (L.take 0).map baseL) := ⟨_, rfl⟩
              have HS0 : Hid (X.toList.isEmpty = b0) := hide (by
                rw [hb0, bytes_list, hXe]
                cases baseL e <;> simp)
              have HB0 : Hid (Value.bool b0 = .bool (decide (baseL e = [] ∨ baseL e ∈ (L.take 0).map baseL))) := hide (by rw [hb0])
              clear hXe HN HX hb0
              go_wp2_with fail
              rw [HS0.out]
              go_loopw [14, 15] (fun sv jv wr => ∃ j : Nat, j ≤ k ∧ jv = .int .i64 j ∧ sv = .bool (decide (baseL e = [] ∨ baseL e ∈ (L.take j).map baseL)) ∧ Hid (PBuf w2.heap.size u10 O w2 wr)) (fun _ jv _ => k - (intOf jv).toNat)
              case atStart => exact ⟨0, Nat.zero_le _, rfl, HB0.out, HB⟩
              case round =>
                obtain ⟨j, hj, rfl, rfl, HB⟩ := hrel
                have hBw := HB.out.below
                by_cases hjl : j < k
                · obtain ⟨q, hq⟩ : ∃ q, L[j]? = some q := ⟨_, List.getElem?_eq_getElem (by omega)⟩
                  obtain ⟨a1, ha1, c0, c1⟩ := (HIN.out.kept hBw).at j q hq
                  obtain rfl := Option.some.inj ha1
                  have hsn : decide (baseL e = [] ∨ baseL e ∈ (L.take (j + 1)).map baseL) = (decide (baseL e = [] ∨ baseL e ∈ (L.take j).map baseL) || (baseL q == baseL e)) := by
                    rw [List.take_add_one, hq]
                    have : (baseL q == baseL e) = decide (baseL e = baseL q) := by
                      by_cases h : baseL q = baseL e
                      · rw [h]; simp
                      · rw [beq_eq_false_iff_ne.2 h, decide_eq_false (fun e => h e.symm)]
                    rw [this, ← Bool.decide_or]
                    congr 1
                    simp [or_assoc]
                  obtain ⟨Q, hQ⟩ : ∃ Q, Q = str q.1 := ⟨_, rfl⟩
                  rw [← hQ] at c0
                  have hQz : Q.size ≤ 1048576 := by rw [hQ, str_size]; exact (HSZ.out.2.2 q (List.mem_of_getElem? hq)).1
                  have CB := hide (fun (w : World) => base07_any Q w hQz)
                  obtain ⟨QB, hQB⟩ : ∃ QB, QB = str (beforeC 42 Q.data.toList) := ⟨_, rfl⟩
                  rw [← hQB] at CB
                  have hQBl : (QB.toList == X.toList) = (baseL q == baseL e) := by rw [bytes_list, bytes_list, HXE.out, hQB, str_toList, hQ, str_toList]; rfl
                  have hjL : j < L.length := by omega
                  have j6 : j < 1000000 := by omega
                  generalize decide (baseL e = [] ∨ baseL e ∈ (L.take j).map baseL) = b at hsn
                  have HSN := hide hsn
                  cases b with
                  | true =>
                    have HS1 : Hid (Value.bool true = .bool (decide (baseL e = [] ∨ baseL e ∈ (L.take (j + 1)).map baseL))) := hide (by rw [HSN.out]; rfl)
                    clear hsn hq hQ hQz hQB hQBl
                    go_wp2_with fail
                    go_roundw
                    case rel => exact ⟨j + 1, by omega, by go_num, HS1.out, HB⟩
                    case measure => simp [intOf]; omega
                  | false =>
                    cases hbq : (baseL q == baseL e) with
                    | true =>
                      rw [hbq] at hQBl
                      have HS1 : Hid (Value.bool true = .bool (decide (baseL e = [] ∨ baseL e ∈ (L.take (j + 1)).map baseL))) := hide (by rw [HSN.out, hbq]; rfl)
                      clear hsn hq hQ hQz hQB hbq
                      go_wp2_with (go_at_call 25; refine (CB.out _).mono ?_; rintro e w5 ⟨rfl, rfl⟩)
                      go_roundw
                      case rel => exact ⟨j + 1, by omega, by go_num, HS1.out, HB⟩
                      case measure => simp [intOf]; omega
                    | false =>
                      rw [hbq] at hQBl
                      have HS1 : Hid (Value.bool false = .bool (decide (baseL e = [] ∨ baseL e ∈ (L.take (j + 1)).map baseL))) := hide (by rw [HSN.out, hbq]; rfl)
                      clear hsn hq hQ hQz hQB hbq
                      go_wp2_with (go_at_call 25; refine (CB.out _).mono ?_; rintro e w5 ⟨rfl, rfl⟩)
                      go_roundw
                      case rel => exact ⟨j + 1, by omega, by go_num, HS1.out, HB⟩
                      case measure => simp [intOf]; omega
                · obtain rfl : j = k := by omega
                  have CV := hide (fun (w : World) (h : ParsIn w (.slice (some a) L.length c2) L) => refValue07_any _ L X w h (by omega) hXz HF.out _ (HSEC.out X.data.toList))
                  rw [show valL (getP L) X.data.toList (nSec (getP L) X.data.toList) = valN (getP L) (baseL e) by rw [HXE.out]; rfl] at CV
                  have HI := hide (HIN.out.kept hBw)
                  have hos := HOS.out
                  rw [← HO.out] at hos
                  have hT : decide (baseL e = [] ∨ baseL e ∈ (L.take j).map baseL) = true → outAt L (j + 1) = O := fun h => by rw [hos, if_pos (of_decide_eq_true h), List.append_nil]
                  have hF : decide (baseL e = [] ∨ baseL e ∈ (L.take j).map baseL) = false → outAt L (j + 1) = O ++ (match valN (getP L) (baseL e) with | some v => [(baseL e, v)] | none => []) := fun h => by rw [hos, if_neg (of_decide_eq_false h)] <;> rfl
                  generalize decide (baseL e = [] ∨ baseL e ∈ (L.take j).map baseL) = b at hT hF ⊢
                  clear hos
                  cases hv : valN (getP L) (baseL e) with
                  | none =>
                    rw [hv] at CV hF
                    simp only [optV] at CV
                    have HON : Hid (O = outAt L (j + 1)) := hide (by
                      cases b with
                      | true => exact (hT rfl).symm
                      | false => have := hF rfl; simpa using this.symm)
                    clear hT hF hv
                    cases b
                    all_goals
                      go_wp2_with (go_at_call 26; refine (CV.out _ HI.out).mono ?_; rintro e w5 ⟨rfl, hb5⟩; have HB5 := hide (HB.out.kept hb5); clear hb5)
                      go_roundw
                      case rel => exact ⟨j + 1, O, HLT.out, by go_num, HB5, HON, hide (by have := HOL.out; omega)⟩
                      case measure => simp [intOf]; have := HLT.out; omega
                  | some v =>
                    rw [hv] at CV hF
                    simp only [optV] at CV
                    obtain ⟨V, hV⟩ : ∃ V, V = str v := ⟨_, rfl⟩
                    rw [← hV] at CV
                    cases b with
                    | true =>
                      have HON : Hid (O = outAt L (j + 1)) := hide (hT rfl).symm
                      clear hT hF hv hV
                      go_wp2_with (go_at_call 26; refine (CV.out _ HI.out).mono ?_; rintro e w5 ⟨rfl, hb5⟩; have HB5 := hide (HB.out.kept hb5); clear hb5)
                      go_roundw
                      case rel => exact ⟨j + 1, O, HLT.out, by go_num, HB5, HON, hide (by have := HOL.out; omega)⟩
                      case measure => simp [intOf]; have := HLT.out; omega
                    | false =>
                      have HON : Hid (O ++ [(baseL e, v)] = outAt L (j + 1)) := hide (hF rfl).symm
                      have HSN : Hid (X = str (baseL e)) := hide (by rw [← HXE.out, str_of])
                      have HSV := hide hV
                      clear hT hF hv hV
                      go_wp2_with (first
                        | (go_at_call 26; refine (CV.out _ HI.out).mono ?_; rintro e w5 ⟨rfl, hb5⟩; have HB5 := hide (HB.out.kept hb5); clear hb5)
                        | (at_builtin; go_must (refine wpList_pars rfl _ _ rfl w2.heap.size u10 O rfl w2 (baseL e, v) (HB5.out.alloc _) ⟨w5.heap.size, 0, none⟩ rfl (by rw [Addr.add_lit, World.cell?_alloc_at _ _ _ _ rfl]; show some (Value.string X) = some (Value.string (str (baseL e))); rw [← HSN.out]) (by rw [Addr.add_lit, World.cell?_alloc_at _ _ _ _ rfl]; show some (Value.string V) = some (Value.string (str v)); rw [← HSV.out]) (by have := HOL.out; omega) ?_; intro v6 w6 hb6; have HB6 := hide hb6; clear hb6)))
                      go_roundw
                      case rel => exact ⟨j + 1, _, HLT.out, by go_num, HB6, HON, hide (by have := HOL.out; simp; omega)⟩
                      case measure => simp [intOf]; have := HLT.out; omega
        · have hke : k = L.length := by omega
          have HFIN : Hid (parsP s.data.toList = (tsL p0.data.toList, O)) := hide (by rw [HPP.out, HO.out, hke])
          have cg := (hBw.cell (p := ⟨g, 0, none⟩) HG3.out).trans HC02.out
          clear hke
          go_wp2_with (first
            | (go_at_call 28; refine (TR.out _).mono ?_; rintro e w5 ⟨rfl, rfl⟩)
            | (go_at_call 27; refine (SM.out _).mono ?_; rintro e w5 ⟨rfl, hb5⟩; have HB5 := hide (HB.out.kept hb5); clear hb5))
          go_ret2
          exact ⟨_, by rw [HFIN.out] <;> rfl, by rw [HFIN.out]; exact HB5.out.lower HW2.out.size HW2.out⟩
end Go.Proofs.YtienjpelmbldpaaGreatDoor
