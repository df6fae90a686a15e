/- WALK of the reference's One (layer 5). No statement is proved here. -/
import Derived.Test.YtienjpelmbldpaaGreatDoorRef05P
import Derived.Test.YtienjpelmbldpaaGreatDoorRef05Q
import Derived.Test.YtienjpelmbldpaaGreatDoorBaseO
import Derived.Test.YtienjpelmbldpaaGreatDoorRefK
import Derived.Test.YtienjpelmbldpaaGreatDoorRefD
import Derived.Test.YtienjpelmbldpaaGreatDoorB64Ref
namespace Go.Proofs.YtienjpelmbldpaaGreatDoor
open Go.RowKit
set_option linter.unusedVariables false
set_option linter.unusedSimpArgs false
set_option maxRecDepth 100000

theorem extract_drop_take (s : ByteArray) (a b : Nat) : (s.extract a b).data.toList = (s.data.toList.drop a).take (b - a) := by
  rw [extract_list, List.drop_take]
theorem getD_at' (s : ByteArray) (k : Nat) (h : k < s.size) : s.data.toList.getD k 0 = s[k] := by
  rw [List.getD_eq_getElem?_getD, List.getElem?_eq_getElem (by rw [toList_length]; exact h)]; rfl
theorem take2_list {s : ByteArray} (h : 2 ≤ s.size) : (s.extract 0 2).toList = s.data.toList.take 2 := by
  rw [bytes_list, extract_list, List.drop_zero]
theorem cast1 (P : Nat) : (P : Int) + 1 = ((P + 1 : Nat) : Int) := by omega
theorem cast2 (P : Nat) : (P : Int) + 2 = ((P + 2 : Nat) : Int) := by omega
theorem cast3 (P : Nat) : (P : Int) + 2 + 1 = ((P + 3 : Nat) : Int) := by omega
/-- the alphabet's name, cut at its first star -/
def NameSt (N M : ByteArray) (k : Nat) : Prop := (k < M.size → M = N ∧ (42 : UInt8) ∉ N.data.toList.take k) ∧ (¬ k < M.size → M.data.toList = beforeC 42 N.data.toList) ∧ k ≤ M.size + 1 ∧ M.size ≤ N.size
theorem nameSt_start (N : ByteArray) : NameSt N N 0 := by
  refine ⟨fun _ => ⟨rfl, by simp⟩, fun h => ?_, by omega, Nat.le_refl _⟩
  have : N.data.toList = [] := List.eq_nil_of_length_eq_zero (by rw [toList_length]; omega)
  rw [this]; rfl
theorem nameSt_star {N M : ByteArray} {k : Nat} (h : NameSt N M k) (hk : k < M.size) (hc : M[k]'hk = 42) : NameSt N (M.extract 0 k) (k + 1) := by
  obtain ⟨h1, _, _, h4⟩ := h
  obtain ⟨rfl, hn⟩ := h1 hk
  have hz : (M.extract 0 k).size = k := by rw [ByteArray.size_extract]; omega
  refine ⟨fun h => by omega, fun _ => ?_, by omega, by omega⟩
  rw [extract_list, List.drop_zero]
  have hl : k < M.data.toList.length := by rw [toList_length]; exact hk
  have := cut_at 42 M.data.toList k hl hc (fun j hj e => hn (by rw [List.mem_take_iff_getElem]; exact ⟨j, by rw [toList_length]; omega, e⟩))
  exact this.2.1.symm
theorem nameSt_next {N M : ByteArray} {k : Nat} (h : NameSt N M k) (hk : k < M.size) (hc : M[k]'hk ≠ 42) : NameSt N M (k + 1) := by
  obtain ⟨h1, _, _, h4⟩ := h
  obtain ⟨rfl, hn⟩ := h1 hk
  have hn2 : (42 : UInt8) ∉ M.data.toList.take (k + 1) := by
    rw [take_snoc M k hk]
    intro hm
    rcases List.mem_append.1 hm with h | h
    · exact hn h
    · exact hc (List.mem_singleton.1 h).symm
  refine ⟨fun h => ⟨rfl, hn2⟩, fun h => ?_, by omega, by omega⟩
  rw [List.take_of_length_le (by rw [toList_length]; omega)] at hn2
  exact (cut_none 42 _ hn2).1.symm

def szOf5 : Value → Nat
  | .string t => t.size
  | _ => 0
set_option maxHeartbeats 4000000 in
theorem refOne_any (s : ByteArray) (w : World) (hs : s.size ≤ 1048576) :
    Calls Tryz.prog 79 #[.string s] w fun e w' => e = .returned (oneV s.data.toList) ∧ Below w.heap.size w w' := by
  have hl := toList_length s
  by_cases h2z : s.size < 2
  · have HV := hide (oneV_none (l := s.data.toList) (one_head (fun e => by have := congrArg List.length e; rw [List.length_take, hl] at this; simp at this; omega)))
    clear hl
    go_enter Tryz.func79, Tryz.ntmps79
    go_wp2_with fail
    go_ret2
    exact ⟨by rw [HV.out]; rfl, Below.refl _ _⟩
  have h2 : 2 ≤ s.size := by omega
  have ht2 := take2_list h2
  have ZS := hide (show s.size ≤ 70368744177664 by omega)
  have Z2 := hide h2
  by_cases hp : s.data.toList.take 2 ≠ [61, 63]
  · have HV := hide (oneV_none (l := s.data.toList) (one_head hp))
    have t1 : ((s.extract 0 2).toList == [61, 63]) = false := beq_eq_false_iff_ne.2 (by rw [ht2]; exact hp)
    have t2 : ((s.extract 0 2).toList != [61, 63]) = true := by simp [bne, t1]
    clear hl ht2 hp h2z
    go_enter Tryz.func79, Tryz.ntmps79
    go_wp2_with fail
    go_ret2
    exact ⟨by rw [HV.out]; rfl, Below.refl _ _⟩
  replace hp : s.data.toList.take 2 = [61, 63] := Decidable.not_not.1 hp
  have t1 : ((s.extract 0 2).toList == [61, 63]) = true := beq_iff_eq.2 (by rw [ht2, hp])
  have t2 : ((s.extract 0 2).toList != [61, 63]) = false := by simp [bne, t1]
  clear ht2 h2z
  obtain ⟨z2, hz2⟩ : ∃ z, z = untilI s.data.toList 2 := ⟨_, rfl⟩
  have HZ2 := hide hz2
  by_cases hu : untilI s.data.toList 2 = -1
  · have HV := hide (oneV_none (l := s.data.toList) (one_until hu))
    have HU := hide hu
    clear hl hp hu hz2
    go_enter Tryz.func79, Tryz.ntmps79
    go_wp2_with fail
    refine (until_any s 2 _ _ rfl ZS.out Z2.out).mono ?_
    rintro e w1 ⟨rfl, rfl⟩
    rw [HU.out]
    go_wp2_with fail
    go_ret2
    exact ⟨by rw [HV.out]; rfl, Below.refl _ _⟩
  obtain ⟨P, hP⟩ : ∃ P : Nat, untilI s.data.toList 2 = P := by
    unfold untilI at hu ⊢
    cases h : untilN (s.data.toList.drop 2) with
    | none => rw [h] at hu; exact absurd rfl hu
    | some n => exact ⟨2 + n, rfl⟩
  have hPl := (one_alpha hP hp).2.1
  have hP2 := (one_alpha hP hp).1
  rw [hl] at hPl
  have HP := hide hP
  clear hu hz2 HZ2
  by_cases hlow : P < 3
  · have HV := hide (oneV_none (l := s.data.toList) (one_bad_alpha hP hp (.inl hlow)))
    clear hl hp hP
    go_enter Tryz.func79, Tryz.ntmps79
    go_wp2_with fail
    refine (until_any s 2 _ _ rfl ZS.out Z2.out).mono ?_
    rintro e w1 ⟨rfl, rfl⟩
    rw [HP.out]
    go_wp2_with fail
    go_ret2
    exact ⟨by rw [HV.out]; rfl, Below.refl _ _⟩
  have hP3 : 3 ≤ P := by omega
  by_cases hhigh : 42 < P
  · have HV := hide (oneV_none (l := s.data.toList) (one_bad_alpha hP hp (.inr hhigh)))
    clear hl hp hP hlow
    go_enter Tryz.func79, Tryz.ntmps79
    go_wp2_with fail
    refine (until_any s 2 _ _ rfl ZS.out Z2.out).mono ?_
    rintro e w1 ⟨rfl, rfl⟩
    rw [HP.out]
    go_wp2_with fail
    go_ret2
    exact ⟨by rw [HV.out]; rfl, Below.refl _ _⟩
  have hP42 : P ≤ 42 := by omega
  have HREST := hide (one_rest hP hp ⟨hP3, hP42⟩)
  have HN : Hid ((s.extract 2 P).data.toList = (s.data.toList.drop 2).take (P - 2)) := hide (extract_drop_take s 2 P)
  have hNz : (s.extract 2 P).size ≤ 1048576 := by rw [ByteArray.size_extract]; omega
  obtain ⟨N, hN⟩ : ∃ N, N = s.extract 2 P := ⟨_, rfl⟩
  rw [← hN] at HN hNz
  have HNN := hide hN
  clear hlow hhigh hp hP hN
  go_enter Tryz.func79, Tryz.ntmps79
  go_wp2_with fail
  refine (until_any s 2 _ _ rfl ZS.out Z2.out).mono ?_
  rintro e w1 ⟨rfl, rfl⟩
  rw [HP.out]
  go_wp2_with fail
  rw [← HNN.out]
  go_loop [5, 6] (fun nm i => ∃ (M : ByteArray) (k : Nat), nm = .string M ∧ i = .int .i64 k ∧ Hid (NameSt N M k) ∧ k ≤ M.size + 1 ∧ M.size ≤ N.size) (fun nm i => szOf5 nm + 1 - (intOf i).toNat)
  case atStart => exact ⟨N, 0, rfl, rfl, hide (nameSt_start N), by omega, Nat.le_refl _⟩
  case round =>
    obtain ⟨M, k, rfl, rfl, HS, hkM, hMN⟩ := hrel
    by_cases hlt : k < M.size
    · by_cases hc : M[k]'hlt = 42
      · have HS2 := hide (nameSt_star HS.out hlt hc)
        have t0 : (((M[k]'hlt).toNat : Int) == 42) = true := tT 42 hc (by omega)
        have hz : (M.extract 0 k).size = k := by rw [ByteArray.size_extract]; omega
        have HZ := hide hz
        clear hc hz
        go_wp2_with fail
        go_round
        case rel => exact ⟨M.extract 0 k, k + 1, rfl, by go_num, HS2, by have := HZ.out; omega, by have := HZ.out; omega⟩
        case measure => simp [intOf, szOf5, HZ.out]; omega
      · have HS2 := hide (nameSt_next HS.out hlt hc)
        have t0 : (((M[k]'hlt).toNat : Int) == 42) = false := tF 42 hc (by omega)
        clear hc
        go_wp2_with fail
        go_round
        case rel => exact ⟨M, k + 1, rfl, by go_num, HS2, by omega, hMN⟩
        case measure => simp [intOf, szOf5]; omega
    · have hM := HS.out.2.1 hlt
      rw [HN.out] at hM
      have hMz : M.size ≤ 1048576 := by omega
      have HM := hide hM
      have HMZ := hide hMz
      have HMZ2 := hide (show M.size ≤ 70368744177664 by omega)
      clear hM hkM hMN HS HN hMz hNz
      obtain ⟨K, hK⟩ : ∃ K, K = kindL (beforeC 42 ((s.data.toList.drop 2).take (P - 2))) := ⟨_, rfl⟩
      have HKV : Hid (knownV (kindL M.data.toList) = .tuple #[.string (str (nameL K)), .bool (decide (0 < K))]) := hide (by rw [HM.out, ← hK]; rfl)
      have HKM : Hid (kindL M.data.toList = K) := hide (by rw [HM.out, ← hK])
      have hrest := HREST.out
      rw [← hK] at hrest
      clear hK HREST
      have ZP1 := hide (show P + 1 ≤ s.size by omega)
      have kn := fun (w : World) => refKnown_any M w (by have := HMZ.out; omega)
      have HKN := hide kn
      clear kn
      rcases hrest with ⟨h0, hn⟩ | ⟨h0, hrest⟩
      · have HV := hide (oneV_none (l := s.data.toList) hn)
        subst h0
        clear hn hl
        go_wp2_with fail
        refine (HKN.out _).mono ?_
        rintro e w1 ⟨rfl, hb1⟩
        rw [HKV.out]
        go_wp2_with fail
        refine (until_any s (P + 1) _ _ (cast1 P) ZS.out ZP1.out).mono ?_
        rintro e w2 ⟨rfl, rfl⟩
        go_wp2_with fail
        go_ret2
        exact ⟨by rw [HV.out]; rfl, hb1⟩
      have hkd : decide (0 < K) = true := decide_eq_true (by omega)
      rw [hkd] at HKV
      clear h0 hkd
      rcases hrest with ⟨hne, hn⟩ | ⟨heq, hP2l, hrest⟩
      · have HV := hide (oneV_none (l := s.data.toList) hn)
        obtain ⟨z, hz⟩ : ∃ z, z = untilI s.data.toList (P + 1) := ⟨_, rfl⟩
        rw [← hz] at hne
        have HZ := hide hz
        have t3 : (z != (P : Int) + 2) = true := by rw [bne_iff_ne]; exact hne
        clear hn hz hne hl
        go_wp2_with fail
        refine (HKN.out _).mono ?_
        rintro e w1 ⟨rfl, hb1⟩
        rw [HKV.out]
        go_wp2_with fail
        refine (until_any s (P + 1) _ _ (cast1 P) ZS.out ZP1.out).mono ?_
        rintro e w2 ⟨rfl, rfl⟩
        rw [← HZ.out]
        go_wp2_with fail
        go_ret2
        exact ⟨by rw [HV.out]; rfl, hb1⟩
      rw [hl] at hP2l
      have HEQ := hide heq
      clear heq
      have k1 : (P : Int) + 2 < s.size := by omega
      have ZP3 := hide (show P + 3 ≤ s.size by omega)
      rcases hrest with ⟨hm1, hn⟩ | ⟨Q, hQ, hQ1, hQ2, hrest⟩
      · have HV := hide (oneV_none (l := s.data.toList) hn)
        have HM1 := hide hm1
        clear hn hm1 hl
        go_wp2_with fail
        refine (HKN.out _).mono ?_
        rintro e w1 ⟨rfl, hb1⟩
        rw [HKV.out]
        go_wp2_with fail
        refine (until_any s (P + 1) _ _ (cast1 P) ZS.out ZP1.out).mono ?_
        rintro e w2 ⟨rfl, rfl⟩
        rw [HEQ.out]
        go_wp2_with fail
        refine (until_any s (P + 3) _ _ (cast3 P) ZS.out ZP3.out).mono ?_
        rintro e w2 ⟨rfl, rfl⟩
        rw [HM1.out]
        go_wp2_with fail
        go_ret2
        exact ⟨by rw [HV.out]; rfl, hb1⟩
      rw [hl] at hQ2
      have HQ := hide hQ
      clear hQ
      rcases hrest with ⟨hend, hn⟩ | ⟨hin, hrest⟩
      · have HV := hide (oneV_none (l := s.data.toList) hn)
        rw [hl] at hend
        have t4 : decide ((s.size : Int) ≤ (Q : Int) + 1) = true := decide_eq_true (by omega)
        clear hn hl
        go_wp2_with fail
        refine (HKN.out _).mono ?_
        rintro e w1 ⟨rfl, hb1⟩
        rw [HKV.out]
        go_wp2_with fail
        refine (until_any s (P + 1) _ _ (cast1 P) ZS.out ZP1.out).mono ?_
        rintro e w2 ⟨rfl, rfl⟩
        rw [HEQ.out]
        go_wp2_with fail
        refine (until_any s (P + 3) _ _ (cast3 P) ZS.out ZP3.out).mono ?_
        rintro e w2 ⟨rfl, rfl⟩
        rw [HQ.out]
        go_wp2_with fail
        go_ret2
        exact ⟨by rw [HV.out]; rfl, hb1⟩
      rw [hl] at hin
      have k2 : (Q : Int) + 1 < s.size := by omega
      rw [getD_at' s (Q + 1) hin] at hrest
      rcases hrest with ⟨h61, hn⟩ | ⟨h61, hws, hone⟩
      · have HV := hide (oneV_none (l := s.data.toList) hn)
        have t5 : ((s[Q + 1].toNat : Int) == 61) = false := tF 61 h61 (by omega)
        have t6 : ((s[Q + 1].toNat : Int) != 61) = true := by simp [bne, t5]
        clear hn hl h61
        go_wp2_with fail
        refine (HKN.out _).mono ?_
        rintro e w1 ⟨rfl, hb1⟩
        rw [HKV.out]
        go_wp2_with fail
        refine (until_any s (P + 1) _ _ (cast1 P) ZS.out ZP1.out).mono ?_
        rintro e w2 ⟨rfl, rfl⟩
        rw [HEQ.out]
        go_wp2_with fail
        refine (until_any s (P + 3) _ _ (cast3 P) ZS.out ZP3.out).mono ?_
        rintro e w2 ⟨rfl, rfl⟩
        rw [HQ.out]
        go_wp2_with fail
        go_ret2
        exact ⟨by rw [HV.out]; rfl, hb1⟩
      have t5 : ((s[Q + 1].toNat : Int) == 61) = true := tT 61 h61 (by omega)
      have t6 : ((s[Q + 1].toNat : Int) != 61) = false := by simp [bne, t5]
      have hP1 : P + 1 < s.size := by omega
      have k3 : (P : Int) + 1 < s.size := by omega
      rw [getD_at' s (P + 1) hP1] at hone
      obtain ⟨TX, hTX⟩ : ∃ TX, TX = s.extract (P + 2 + 1) Q := ⟨_, rfl⟩
      have HTXN := hide hTX
      have HTX : Hid (TX.data.toList = (s.data.toList.drop (P + 3)).take (Q - (P + 3))) := hide (by rw [hTX]; exact extract_drop_take s (P + 3) Q)
      have HTZ := hide (show TX.size ≤ 1048576 by rw [hTX, ByteArray.size_extract]; omega)
      have HTZ2 := hide (show TX.size ≤ 70368744177664 by have := HTZ.out; omega)
      rw [← HTX.out] at hone hws
      obtain ⟨x, hx⟩ : ∃ x, x = s[P + 1] := ⟨_, rfl⟩
      have hby : bytesO [x] TX.data.toList = if x = 66 ∨ x = 98 then some (decB TX.data.toList) else if x = 81 ∨ x = 113 then some (qdec TX.data.toList) else none := by
        unfold bytesO
        rw [if_pos hws]
        simp only [List.cons.injEq, and_true]
      rw [← hx, hby] at hone
      have HX := hide hx
      clear h61 hws hby HTX hl hTX
      have o1 : (0 : Int) ≤ (P : Int) + 2 + 1 := by omega
      have o2 : (P : Int) + 2 + 1 ≤ Q := by omega
      have o3 : (Q : Int) ≤ s.size := by omega
      have o5 : (0 : Int) ≤ (P : Int) + 1 := by omega
      have o6 : (0 : Int) ≤ (Q : Int) + 1 := by omega
      have o8 : decide ((Q : Int) < 0) = false := decide_eq_false (by omega)
      have o9 : decide ((s.size : Int) ≤ (Q : Int) + 1) = false := decide_eq_false (by omega)
      by_cases h66 : x = 66 ∨ x = 98
      · rw [if_pos h66] at hone
        have HV := hide (oneV_some (l := s.data.toList) (by rw [hone]; rfl))
        have hbl := decB_len TX.data.toList
        have HBZ : Hid ((str (decB TX.data.toList)).size ≤ 1048576) := hide (by rw [str_size]; have := HTZ.out; have h3 := toList_length TX; omega)
        clear hone hbl
        rcases h66 with h66 | h66
        · have t7 : ((s[P + 1].toNat : Int) == 66) = true := tT 66 (by rw [← HX.out]; exact h66) (by omega)
          clear h66 hx
          go_wp2_with fail
          refine (HKN.out _).mono ?_
          rintro e w1 ⟨rfl, hb1⟩
          rw [HKV.out]
          go_wp2_with fail
          refine (until_any s (P + 1) _ _ (cast1 P) ZS.out ZP1.out).mono ?_
          rintro e w2 ⟨rfl, rfl⟩
          rw [HEQ.out]
          go_wp2_with fail
          refine (until_any s (P + 3) _ _ (cast3 P) ZS.out ZP3.out).mono ?_
          rintro e w2 ⟨rfl, rfl⟩
          rw [HQ.out]
          go_wp2_with fail
          rw [← HTXN.out]
          refine (ref64Decode_any _ _ HTZ.out).mono ?_
          rintro e w3 ⟨rfl, hb3⟩
          go_wp2_with fail
          refine (refCharsDecode_any M _ _ HMZ2.out HBZ.out).mono ?_
          rintro e w4 ⟨rfl, hb4⟩
          rw [HKM.out, str_toList]
          unfold decV
          go_wp2_with fail
          go_ret2
          have k4 := hb1.trans (hb3.mono hb1.size)
          refine ⟨?_, k4.trans (hb4.mono k4.size)⟩
          rw [HV.out]
          exact congrArg (fun z => Ending.returned (.tuple #[.string _, .int .i64 z])) (cast2 Q)
        · have t7 : ((s[P + 1].toNat : Int) == 66) = false := tF 66 (by rw [← HX.out, h66]; decide) (by omega)
          have t8 : ((s[P + 1].toNat : Int) == 98) = true := tT 98 (by rw [← HX.out]; exact h66) (by omega)
          clear h66 hx
          go_wp2_with fail
          refine (HKN.out _).mono ?_
          rintro e w1 ⟨rfl, hb1⟩
          rw [HKV.out]
          go_wp2_with fail
          refine (until_any s (P + 1) _ _ (cast1 P) ZS.out ZP1.out).mono ?_
          rintro e w2 ⟨rfl, rfl⟩
          rw [HEQ.out]
          go_wp2_with fail
          refine (until_any s (P + 3) _ _ (cast3 P) ZS.out ZP3.out).mono ?_
          rintro e w2 ⟨rfl, rfl⟩
          rw [HQ.out]
          go_wp2_with fail
          rw [← HTXN.out]
          refine (ref64Decode_any _ _ HTZ.out).mono ?_
          rintro e w3 ⟨rfl, hb3⟩
          go_wp2_with fail
          refine (refCharsDecode_any M _ _ HMZ2.out HBZ.out).mono ?_
          rintro e w4 ⟨rfl, hb4⟩
          rw [HKM.out, str_toList]
          unfold decV
          go_wp2_with fail
          go_ret2
          have k4 := hb1.trans (hb3.mono hb1.size)
          refine ⟨?_, k4.trans (hb4.mono k4.size)⟩
          rw [HV.out]
          exact congrArg (fun z => Ending.returned (.tuple #[.string _, .int .i64 z])) (cast2 Q)
      rw [if_neg h66] at hone
      have t7 : ((s[P + 1].toNat : Int) == 66) = false := tF 66 (by rw [← HX.out]; exact fun e => h66 (.inl e)) (by omega)
      have t8 : ((s[P + 1].toNat : Int) == 98) = false := tF 98 (by rw [← HX.out]; exact fun e => h66 (.inr e)) (by omega)
      clear h66
      by_cases h81 : x = 81 ∨ x = 113
      · rw [if_pos h81] at hone
        have HV := hide (oneV_some (l := s.data.toList) (by rw [hone]; rfl))
        have hbl := qdec_length TX.data.toList
        have HBZ : Hid ((str (qdec TX.data.toList)).size ≤ 1048576) := hide (by rw [str_size]; have := HTZ.out; have h3 := toList_length TX; omega)
        clear hone hbl
        rcases h81 with h81 | h81
        · have t9 : ((s[P + 1].toNat : Int) == 81) = true := tT 81 (by rw [← HX.out]; exact h81) (by omega)
          clear h81 hx
          go_wp2_with fail
          refine (HKN.out _).mono ?_
          rintro e w1 ⟨rfl, hb1⟩
          rw [HKV.out]
          go_wp2_with fail
          refine (until_any s (P + 1) _ _ (cast1 P) ZS.out ZP1.out).mono ?_
          rintro e w2 ⟨rfl, rfl⟩
          rw [HEQ.out]
          go_wp2_with fail
          refine (until_any s (P + 3) _ _ (cast3 P) ZS.out ZP3.out).mono ?_
          rintro e w2 ⟨rfl, rfl⟩
          rw [HQ.out]
          go_wp2_with fail
          rw [← HTXN.out]
          refine (refQuoted_any _ _ HTZ2.out).mono ?_
          rintro e w3 ⟨rfl, hb3⟩
          go_wp2_with fail
          refine (refCharsDecode_any M _ _ HMZ2.out HBZ.out).mono ?_
          rintro e w4 ⟨rfl, hb4⟩
          rw [HKM.out, str_toList]
          unfold decV
          go_wp2_with fail
          go_ret2
          have k4 := hb1.trans (hb3.mono hb1.size)
          refine ⟨?_, k4.trans (hb4.mono k4.size)⟩
          rw [HV.out]
          exact congrArg (fun z => Ending.returned (.tuple #[.string _, .int .i64 z])) (cast2 Q)
        · have t9 : ((s[P + 1].toNat : Int) == 81) = false := tF 81 (by rw [← HX.out, h81]; decide) (by omega)
          have t10 : ((s[P + 1].toNat : Int) == 113) = true := tT 113 (by rw [← HX.out]; exact h81) (by omega)
          clear h81 hx
          go_wp2_with fail
          refine (HKN.out _).mono ?_
          rintro e w1 ⟨rfl, hb1⟩
          rw [HKV.out]
          go_wp2_with fail
          refine (until_any s (P + 1) _ _ (cast1 P) ZS.out ZP1.out).mono ?_
          rintro e w2 ⟨rfl, rfl⟩
          rw [HEQ.out]
          go_wp2_with fail
          refine (until_any s (P + 3) _ _ (cast3 P) ZS.out ZP3.out).mono ?_
          rintro e w2 ⟨rfl, rfl⟩
          rw [HQ.out]
          go_wp2_with fail
          rw [← HTXN.out]
          refine (refQuoted_any _ _ HTZ2.out).mono ?_
          rintro e w3 ⟨rfl, hb3⟩
          go_wp2_with fail
          refine (refCharsDecode_any M _ _ HMZ2.out HBZ.out).mono ?_
          rintro e w4 ⟨rfl, hb4⟩
          rw [HKM.out, str_toList]
          unfold decV
          go_wp2_with fail
          go_ret2
          have k4 := hb1.trans (hb3.mono hb1.size)
          refine ⟨?_, k4.trans (hb4.mono k4.size)⟩
          rw [HV.out]
          exact congrArg (fun z => Ending.returned (.tuple #[.string _, .int .i64 z])) (cast2 Q)
      · rw [if_neg h81] at hone
        have HV := hide (oneV_none (l := s.data.toList) (by rw [hone]; rfl))
        have t9 : ((s[P + 1].toNat : Int) == 81) = false := tF 81 (by rw [← HX.out]; exact fun e => h81 (.inl e)) (by omega)
        have t10 : ((s[P + 1].toNat : Int) == 113) = false := tF 113 (by rw [← HX.out]; exact fun e => h81 (.inr e)) (by omega)
        clear h81 hx hone
        go_wp2_with fail
        refine (HKN.out _).mono ?_
        rintro e w1 ⟨rfl, hb1⟩
        rw [HKV.out]
        go_wp2_with fail
        refine (until_any s (P + 1) _ _ (cast1 P) ZS.out ZP1.out).mono ?_
        rintro e w2 ⟨rfl, rfl⟩
        rw [HEQ.out]
        go_wp2_with fail
        refine (until_any s (P + 3) _ _ (cast3 P) ZS.out ZP3.out).mono ?_
        rintro e w2 ⟨rfl, rfl⟩
        rw [HQ.out]
        go_wp2_with fail
        go_ret2
        exact ⟨by rw [HV.out]; rfl, hb1⟩
end Go.Proofs.YtienjpelmbldpaaGreatDoor
