/- WALK of param.Write. No statement is proved here. -/
import Derived.Test.YtienjpelmbldpaaGreatDoorParM
namespace Go.Proofs.YtienjpelmbldpaaGreatDoor
open Go.RowKit
set_option linter.unusedVariables false
set_option linter.unusedSimpArgs false
set_option maxRecDepth 100000
theorem wrP_bad {main : List UInt8} {l : List ParL} (h : okPs [] l = false) : wrP main l = ([], 1) := by unfold wrP; rw [h, Bool.and_false]; rfl
set_option maxHeartbeats 8000000 in
theorem write07_any (main : ByteArray) (v : Value) (l : List ParL) (m : Int) (w : World) (h : ParsIn w v l) (hmz : main.size ≤ 1048576) (hz : ∀ p ∈ l, p.1.length ≤ 1048576 ∧ p.2.length ≤ 100000) (hn : l.length ≤ 999999)
    (hsz : (main.data.toList ++ parTs l).length ≤ 140737488355328) (hm : w.cell? ⟨0, 0, none⟩ = some (.int .i64 m)) :
    Calls Tryz.prog 16 #[.string main, v] w fun e w' => e = .returned (.tuple #[.string (str (wrP main.data.toList l).1), .int .i64 (wrP main.data.toList l).2]) ∧ Below w.heap.size w w' := by
  have hlt0 : 0 < w.heap.size := World.block_lt_of_cell? _ _ hm
  have HM : Hid (∀ w2, Below w.heap.size w w2 → w2.cell? ⟨0, 0, none⟩ = some (.int .i64 m)) := hide fun w2 h => (h.cell hlt0).trans hm
  obtain ⟨A, cap, rfl⟩ := h.form
  have H := hide h
  have HZ := hide hz
  have HSZ := hide hsz
  have HMM := hide (mayMain_any main w hmz)
  have hmm := @run_makeMap Tryz.prog
  clear h hz hsz hm hlt0
  cases hmb : mainB main.data.toList with
  | false =>
    have HR : Hid (wrP main.data.toList l = ([], 1)) := hide (by unfold wrP; rw [hmb]; rfl)
    rw [hmb] at HMM
    clear hmb
    go_enter Tryz.func16, Tryz.ntmps16
    go_wp2_with (go_at_call 30; refine HMM.out.mono ?_; rintro e w1 ⟨rfl, hb1⟩; have HB1 := hide hb1; clear hb1)
    go_ret2
    exact ⟨by rw [HR.out]; rfl, HB1.out⟩
  | true =>
    have HR1 : okPs [] l = true → Hid (wrP main.data.toList l = (main.data.toList ++ parTs l, 0)) := fun h => hide (by unfold wrP; rw [hmb, h]; rfl)
    rw [hmb] at HMM
    clear hmb
    have HML : Hid (([] : List UInt8).length + main.size ≤ 140737488355328) := hide (by simp; omega)
    go_enter Tryz.func16, Tryz.ntmps16
    go_wp2_with (first
      | (go_at_call 30; refine HMM.out.mono ?_; rintro e w1 ⟨rfl, hb1⟩; have HS1 := hide (wrS_start w w1 hb1); clear hb1)
      | (go_at_call 31; refine (writeStringM_any w.heap.size (w1.heap.size + 1) [] main w _ HS1.out.1 HML.out).mono ?_; rintro e w2 ⟨rfl, hb2, hk2⟩; have HS2 := hide (HS1.out.wrote hb2 hk2); clear hb2 hk2))
    clear hmm
    go_loopw [18] (fun iv wr => ∃ k : Nat, k ≤ l.length ∧ iv = .int .i64 k ∧ Hid (WrS w.heap.size w (w1.heap.size + 1) w1.heap.size k (main.data.toList ++ parTs (l.take k)) (seenF (l.take k)) wr) ∧ Hid (okPs ((l.take k).map (·.1)) (l.drop k) = okPs [] l)) (fun iv _ => l.length - (intOf iv).toNat)
    case atStart => exact ⟨0, Nat.zero_le _, rfl, by simpa [parTs] using HS2, hide (by simp)⟩
    case round =>
      obtain ⟨k, hk, rfl, HS, HG⟩ := hrel
      by_cases hlt : k < l.length
      · obtain ⟨p, hp⟩ : ∃ p, l[k]? = some p := ⟨_, List.getElem?_eq_getElem hlt⟩
        have hBw := HS.out.below
        obtain ⟨a, rfl, c0, c1⟩ := (H.out.kept hBw).at k p hp
        obtain ⟨z1, z2⟩ := HZ.out p (List.mem_of_getElem? hp)
        have hdr : l.drop k = p :: l.drop (k + 1) := by
          rw [List.drop_eq_getElem_cons hlt, (List.getElem?_eq_some_iff.1 hp).2]
        have HG2 := HG.out
        rw [hdr] at HG2
        have hsnoc : l.take (k + 1) = l.take k ++ [p] := by rw [List.take_add_one, hp]; rfl
        have HPT := hide (parTs_take l k p hp)
        have HLE := hide (parTs_le l (k + 1))
        obtain ⟨P1, hP1⟩ : ∃ P1, P1 = str p.1 := ⟨_, rfl⟩
        obtain ⟨P2, hP2⟩ : ∃ P2, P2 = str p.2 := ⟨_, rfl⟩
        have d1 : P1.data.toList = p.1 := by rw [hP1]; exact str_toList _
        have d2 : P2.data.toList = p.2 := by rw [hP2]; exact str_toList _
        have s1 : P1.size ≤ 1048576 := by rw [hP1, str_size]; exact z1
        have s2 : P2.size ≤ 100000 := by rw [hP2, str_size]; exact z2
        rw [← hP1] at c0
        rw [← hP2] at c1
        have hk6 : k < 1000000 := by omega
        have CN := fun w1 => hide (mayName_any P1 w1 s1)
        have CC := fun w1 => hide (control_any P2 w1 (by omega))
        rw [d1] at CN
        rw [d2] at CC
        obtain ⟨wa, hwa⟩ : ∃ wa, wa = wr.alloc (.cells #[.string P1, .string P2] 37) := ⟨_, rfl⟩
        have HSa : WrS w.heap.size w (w1.heap.size + 1) w1.heap.size k (main.data.toList ++ parTs (l.take k)) (seenF (l.take k)) wa := by
          rw [hwa]; exact HS.out.kept ((Below.refl _ wr).alloc (Nat.le_refl _) _)
        have hlk := HSa.look P1 s1
        rw [d1, seenF_get] at hlk
        have HBA := hide HSa.below
        rw [hwa] at hlk HBA
        cases hnb : nameB p.1 with
        | false =>
          have HR : Hid (wrP main.data.toList l = ([], 1)) := hide (wrP_bad (by rw [← HG2]; simp only [okPs, hnb, Bool.false_and]))
          rw [hnb] at CN
          clear hnb HG2 hdr hsnoc d1 d2 hP1 hP2 hp z1 z2 hlk HSa hwa wa
          go_wp2_with (go_at_call 32; refine (CN _).out.mono ?_; rintro e w3 ⟨rfl, h3⟩; obtain rfl := h3)
          go_ret2
          exact ⟨by rw [HR.out]; rfl, HBA.out⟩
        | true =>
          rw [hnb] at CN
          cases hsn : decide (p.1 ∈ (l.take k).map (·.1)) with
          | true =>
            have HR : Hid (wrP main.data.toList l = ([], 1)) := hide (wrP_bad (by rw [← HG2]; simp only [okPs, hnb, hsn, Bool.not_true, Bool.and_false, Bool.false_and]))
            rw [hsn] at hlk
            clear hsn hnb HG2 hdr hsnoc d1 d2 hP1 hP2 hp z1 z2 HSa hwa wa
            go_wp2_with (go_at_call 32; refine (CN _).out.mono ?_; rintro e w3 ⟨rfl, h3⟩; obtain rfl := h3)
            go_ret2
            exact ⟨by rw [HR.out]; rfl, HBA.out⟩
          | false =>
            rw [hsn] at hlk
            cases hct : ctlL p.2 with
            | true =>
              have HR : Hid (wrP main.data.toList l = ([], 1)) := hide (wrP_bad (by rw [← HG2]; simp only [okPs, hnb, hsn, hct, Bool.not_true, Bool.and_false, Bool.false_and]))
              rw [hct] at CC
              clear hct hsn hnb HG2 hdr hsnoc d1 d2 hP1 hP2 hp z1 z2 HSa hwa wa
              go_wp2_with (first
                | (go_at_call 32; refine (CN _).out.mono ?_; rintro e w3 ⟨rfl, h3⟩; obtain rfl := h3)
                | (go_at_call 33; refine (CC _).out.mono ?_; rintro e w3 ⟨rfl, h3⟩; obtain rfl := h3))
              go_ret2
              exact ⟨by rw [HR.out]; rfl, HBA.out⟩
            | false =>
              rw [hct] at CC
              have HGN : Hid (okPs ((l.take (k + 1)).map (·.1)) (l.drop (k + 1)) = okPs [] l) := hide (by
                rw [← HG2, hsnoc, List.map_append]
                simp only [okPs, hnb, hsn, hct, Bool.not_false, Bool.and_true, Bool.true_and, List.map_cons, List.map_nil])
              obtain ⟨w5, hup, HS5, ht5⟩ := HSa.put (by omega) P1 s1
              rw [d1, seenF_snoc, ← hsnoc] at HS5
              have hpb : wa.heap[wr.heap.size]? = some (.cells #[.string P1, .string P2] 37 (0, 0)) := by rw [hwa]; exact heap_alloc_new wr _
              have hne : wr.heap.size ≠ w1.heap.size := by
                obtain ⟨_, ⟨n, _, hb⟩, _⟩ := HS.out
                exact Nat.ne_of_gt hb.lt
              have hp5 := (ht5.2.1 _ hne).trans hpb
              have k5 := cell_of_row w5 wr.heap.size 0 _ _ _ hp5
              have k6 := cell_of_row w5 wr.heap.size 1 _ _ _ hp5
              obtain ⟨V, hV⟩ : ∃ V, V = str (wrL p.2) := ⟨_, rfl⟩
              have CW : ∀ w1, w1.cell? ⟨0, 0, none⟩ = some (.int .i64 m) → Hid (Calls Tryz.prog 34 #[.string P2] w1 fun e w' => e = .returned (.string V) ∧ Below w1.heap.size w1 w') := fun w1 hx => hide (by
                have := written_any P2 m w1 s2 hx
                rw [d2, ← hV] at this
                exact this)
              have hX : ((⟨#[59, 32]⟩ : ByteArray) ++ P1 ++ V) = str ([59, 32] ++ p.1 ++ wrL p.2) := by rw [hP1, hV, str_append, str_append]; rfl
              have HNX : Hid ((main.data.toList ++ parTs (l.take k)) ++ ((⟨#[59, 32]⟩ : ByteArray) ++ P1 ++ V).data.toList = main.data.toList ++ parTs (l.take (k + 1))) := hide (by
                rw [hX, str_toList, HPT.out, List.append_assoc])
              have HLEN : Hid ((main.data.toList ++ parTs (l.take k)).length + ((⟨#[59, 32]⟩ : ByteArray) ++ P1 ++ V).size ≤ 140737488355328) := hide (by
                have e1 := congrArg List.length HNX.out
                have e2 := HSZ.out
                have e3 := HLE.out
                rw [List.length_append, toList_length] at e1
                rw [List.length_append] at e2
                rw [e1, List.length_append]
                omega)
              have hVs : V.size ≤ 140737488355328 := by
                have := HLEN.out
                rw [ByteArray.size_append] at this
                omega
              have HK : Hid (∀ w2, Below w5.heap.size w5 w2 → WrS w.heap.size w (w1.heap.size + 1) w1.heap.size (k + 1) (main.data.toList ++ parTs (l.take k)) (seenF (l.take (k + 1))) w2 ∧ w2.cell? ⟨wr.heap.size, 0, none⟩ = some (.string P1) ∧ w2.cell? ⟨wr.heap.size, 1, none⟩ = some (.string P2) ∧ w2.cell? ⟨0, 0, none⟩ = some (.int .i64 m)) :=
                hide fun w2 h => ⟨HS5.kept h, cell_of_row w2 wr.heap.size 0 _ _ _ ((h.block _ (lt_of_block hp5)).trans hp5), cell_of_row w2 wr.heap.size 1 _ _ _ ((h.block _ (lt_of_block hp5)).trans hp5), HM.out _ (HS5.kept h).below⟩
              have HLT := hide hlt
              rw [hwa] at hup
              obtain ⟨acc, hacc⟩ : ∃ acc, main.data.toList ++ parTs (l.take k) = acc := ⟨_, rfl⟩
              rw [hacc] at HNX HLEN HK
              clear hct hsn hnb HG2 hdr hsnoc d1 d2 hP1 hP2 hp z1 z2 HSa hwa hpb hne hp5 ht5 HS5 hV hX hacc HPT HLE HR1
              go_wp2_with (first
                | (go_at_call 32; refine (CN _).out.mono ?_; rintro e w3 ⟨rfl, h3⟩; obtain rfl := h3)
                | (go_at_call 33; refine (CC _).out.mono ?_; rintro e w3 ⟨rfl, h3⟩; obtain rfl := h3))
              go_region_with (first
                | (go_at_call 34; refine (CW _ (HK.out _ (Below.refl w5.heap.size w5).drew).2.2.2).out.mono ?_; rintro e w6 ⟨rfl, hb6⟩; have HK6 := hide (HK.out w6 ((Below.refl w5.heap.size w5).drew.trans (hb6.mono (Below.refl w5.heap.size w5).drew.size))); have k7 := HK6.out.2.1; have k8 := HK6.out.2.2.1; clear hb6)
                | (go_at_call 31; refine (writeStringM_any w.heap.size (w1.heap.size + 1) acc _ w w6 HK6.out.1.1 HLEN.out).mono ?_; rintro e w7 ⟨rfl, hb7, hk7⟩; have HS7 := hide (HK6.out.1.wrote hb7 hk7); clear hb7 hk7))
              all_goals
                go_wp2_with fail
                go_roundw
                case rel => exact ⟨k + 1, HLT.out, by go_num, by rw [HNX.out] at HS7; exact HS7, HGN⟩
                case measure => simp [intOf]; have := HLT.out; omega
      · have hk2 : k = l.length := by omega
        have HGE : okPs [] l = true := by rw [← HG.out, List.drop_eq_nil_of_le (by omega)]; rfl
        have HR := HR1 HGE
        have HS3 : Hid (Bld w.heap.size (w1.heap.size + 1) (main.data.toList ++ parTs l) w wr) := hide (by
          have := HS.out.1
          rw [hk2, List.take_length] at this
          exact this)
        clear HS HG HGE HR1 hk2
        go_wp2_with (go_at_call 35; refine HS3.out.string.mono ?_; rintro e w3 ⟨rfl, hb3⟩; have HB3 := hide hb3; clear hb3)
        go_ret2
        exact ⟨by rw [HR.out] <;> rfl, HB3.out⟩
end Go.Proofs.YtienjpelmbldpaaGreatDoor
