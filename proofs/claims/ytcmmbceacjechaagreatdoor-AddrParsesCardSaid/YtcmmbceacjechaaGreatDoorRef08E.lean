/- WALK of the reference of layer 8: box. No statement is proved here. -/
import Derived.Test.YtcmmbceacjechaaGreatDoorRef08D
import Derived.Deep.RegionWith
namespace Go.Proofs.YtcmmbceacjechaaGreatDoor
open Go.RowKit
set_option linter.unusedVariables false
set_option linter.unusedSimpArgs false
set_option maxRecDepth 100000
theorem angF_hit (m : MSt) (cur : List UInt8) {c : UInt8} (r : List UInt8) (h : (takeB m c).1 = 0) (hc : c = 60) : angF m cur (c :: r) = some (cur, inF (takeB m c).2 r) := by rw [angF, if_pos ⟨h, hc⟩]
theorem angF_go (m : MSt) (cur : List UInt8) {c : UInt8} (r : List UInt8) (h : ¬ ((takeB m c).1 = 0 ∧ c = 60)) : angF m cur (c :: r) = angF (takeB m c).2 (cur ++ [c]) r := by rw [angF, if_neg h]
theorem inF_hit (m : MSt) {c : UInt8} (r : List UInt8) (h : (takeB m c).1 = 0) (hc : c = 62) : inF m (c :: r) = [] := by rw [inF, if_pos ⟨h, hc⟩]
theorem inF_go (m : MSt) {c : UInt8} (r : List UInt8) (h : ¬ ((takeB m c).1 = 0 ∧ c = 62)) : inF m (c :: r) = c :: inF (takeB m c).2 r := by rw [inF, if_neg h]
/-- outside of remarks -/
def OutR (m : MSt) : Prop := m.r = 0 ∧ (m.q = false → m.p = false)
theorem out_next {m : MSt} {c : UInt8} (h : OutR m) : ((takeB m c).1 = 0 ∨ (takeB m c).1 = 1) ∧ OutR (takeB m c).2 ∨ (m = m0 ∧ c = 40) := by
  obtain ⟨h1, h2⟩ := h
  obtain ⟨q, r, p⟩ := m
  simp only at h1 h2
  subst h1
  cases q with
  | true =>
    left
    unfold takeB OutR inPairB nextP
    refine ⟨.inr rfl, rfl, ?_⟩
    simp only [if_true]
    intro h
    cases p with
    | true => simp at h
    | false =>
      simp at h ⊢
      intro e; exact absurd e h.1
  | false =>
    have hp := h2 rfl
    subst hp
    by_cases h34 : c = 34
    · left
      subst h34
      exact ⟨.inr rfl, rfl, fun h => by cases h⟩
    · by_cases h40 : c = 40
      · right; exact ⟨rfl, h40⟩
      · left
        have := take_calm h34 h40
        unfold m0 at this
        rw [this]
        exact ⟨.inl rfl, rfl, fun _ => rfl⟩
theorem rmStep_out (st : RmSt) (c : UInt8) (pl : Nat) (h : pl = 0 ∨ pl = 1) : rmStep st c pl = (st.1, st.2.1 ++ [c], st.2.2) := by
  unfold rmStep
  rcases h with rfl | rfl
  · rw [if_neg (by decide), if_pos (by decide)]
  · rw [if_neg (by decide), if_pos (by decide)]
/-- what is known at byte k of a text without a `<`: signs, what stands outside, what the first remark says -/
def RmK (s : ByteArray) (k : Nat) (st : RmSt) : Prop :=
  (k < s.size → OutR (stAt (s.data.toList.take k)) ∧ rmF (stAt (s.data.toList.take k)) st (s.data.toList.drop k) = rmF m0 (0, [], []) s.data.toList) ∧
  (s.size ≤ k → st.2 = (rmF m0 (0, [], []) s.data.toList).2) ∧ (st.1 = 0 → st.2.2 = []) ∧ st.2.2.length ≤ s.size ∧ st.2.1.length ≤ k ∧ k ≤ s.size
theorem RmK.start (s : ByteArray) : RmK s 0 (0, [], []) := by
  refine ⟨fun _ => ⟨⟨rfl, fun _ => rfl⟩, rfl⟩, fun h => ?_, fun _ => rfl, Nat.zero_le _, Nat.le_refl _, Nat.zero_le _⟩
  have : s.data.toList = [] := List.eq_nil_of_length_eq_zero (by rw [toList_length]; omega)
  rw [this, rmF]
theorem RmK.out {s : ByteArray} {k : Nat} {st : RmSt} (h : RmK s k st) (hk : k < s.size) (hp : (takeB (stAt (s.data.toList.take k)) s[k]).1 = 0 ∨ (takeB (stAt (s.data.toList.take k)) s[k]).1 = 1) : RmK s (k + 1) (st.1, st.2.1 ++ [s[k]], st.2.2) := by
  obtain ⟨h1, h2, h3, h4, h5, h6⟩ := h
  obtain ⟨g1, g2⟩ := h1 hk
  rw [drop_cons s k hk, rmF_cons, rmStep_out _ _ _ hp, st_step s k hk] at g2
  refine ⟨fun hk2 => ⟨?_, g2⟩, fun hk2 => ?_, h3, h4, by simp; omega, hk⟩
  · rcases out_next (c := s[k]) g1 with ⟨_, h⟩ | ⟨e1, e2⟩
    · rw [← st_step s k hk]; exact h
    · rw [e1, e2] at hp
      exact absurd hp (by decide)
  · rw [drop_nil s (k + 1) hk2, rmF] at g2
    rw [← g2]
theorem gP_two {m : MSt} {c : UInt8} (h : OutR m) (hp : gP (takeB m c).1 = 2) : m = m0 ∧ c = 40 := by
  rcases out_next (c := c) h with ⟨h1, _⟩ | h
  · rcases h1 with h1 | h1 <;> rw [h1] at hp <;> exact absurd hp (by decide)
  · exact h
theorem gP_not {m : MSt} {c : UInt8} (h : OutR m) (hp : gP (takeB m c).1 ≠ 2) : (takeB m c).1 = 0 ∨ (takeB m c).1 = 1 := by
  rcases out_next (c := c) h with ⟨h1, _⟩ | ⟨e1, e2⟩
  · exact h1
  · subst e1 e2; exact absurd rfl hp
theorem RmK.remark {s : ByteArray} {k : Nat} {st : RmSt} (h : RmK s k st) (hk : k < s.size) (hp : gP (takeB (stAt (s.data.toList.take k)) s[k]).1 = 2) :
    s[k] = 40 ∧ k + 1 + wi 1 (s.data.toList.drop (k + 1)) ≤ s.size ∧ ∃ sg, 0 < sg ∧ RmK s (k + 1 + wi 1 (s.data.toList.drop (k + 1))) (sg, st.2.1, if st.1 = 0 then inR ((s.data.toList.drop (k + 1)).take (wi 1 (s.data.toList.drop (k + 1)))) else st.2.2) := by
  obtain ⟨h1, h2, h3, h4, h5, h6⟩ := h
  obtain ⟨g1, g2⟩ := h1 hk
  obtain ⟨e1, e2⟩ := gP_two g1 hp
  obtain ⟨t, ht⟩ : ∃ t, t = s.data.toList.drop (k + 1) := ⟨_, rfl⟩
  have htl : t.length + (k + 1) = s.size := by rw [ht, List.length_drop, toList_length]; omega
  have hle := wi_le t.length 1 t (Nat.le_refl _)
  rw [drop_cons s k hk, rmF_cons, e1, e2] at g2
  have e40 : takeB m0 40 = (3, stS 2 1) := rfl
  rw [e40] at g2
  simp only at g2
  obtain ⟨sg, rest, said⟩ := st
  simp only at h3 h4 h5 g2 ⊢
  rw [rmStep_sign, ← ht] at g2
  rw [← ht]
  obtain ⟨i1, i2⟩ := rm_in t.length 1 t (sg + 1) rest said (Nat.le_refl _) (Nat.le_refl _)
  have hin := inR_take t
  have hsz : (if sg = 0 then inR (t.take (wi 1 t)) else said).length ≤ s.size := by
    split
    · rw [hin]; split
      · rw [List.length_take]; omega
      · omega
    · exact h4
  refine ⟨e2, by omega, ?_⟩
  cases hc : clR 1 t with
  | true =>
    obtain ⟨j1, j2, j3, j4⟩ := i1 hc
    rw [hc, if_pos rfl] at hin
    rw [j1] at g2
    have hsaid : (said ++ if sg + 1 = 1 then t.take (wi 1 t - 1) else []) = if sg = 0 then inR (t.take (wi 1 t)) else said := by
      by_cases h0 : sg = 0
      · rw [if_pos (by omega), if_pos h0, h3 h0, hin, List.nil_append]
      · rw [if_neg (by omega), if_neg h0, List.append_nil]
    rw [hsaid] at g2
    have hst : stAt (s.data.toList.take (k + 1 + wi 1 t)) = m0 := by
      have e : s.data.toList.take (k + 1 + wi 1 t) = s.data.toList.take (k + 1) ++ t.take (wi 1 t) := by rw [ht, List.take_add]
      have e3 : stAt (s.data.toList.take (k + 1)) = stS 2 1 := by rw [← st_step s k hk, e1, e2]; rfl
      rw [e]
      show mvR ⟨false, 0, false⟩ _ = _
      rw [mvR_app]
      show mvR (stAt (s.data.toList.take (k + 1))) _ = _
      rw [e3]; exact j2
    have hdr : t.drop (wi 1 t) = s.data.toList.drop (k + 1 + wi 1 t) := by rw [ht, List.drop_drop]
    rw [hdr] at g2
    refine ⟨sg + 1 + 1, by omega, fun _ => ⟨?_, ?_⟩, fun hk2 => ?_, fun h => absurd h (by simp), hsz, by simp only; omega, by omega⟩
    · rw [hst]; exact ⟨rfl, fun _ => rfl⟩
    · rw [hst]; exact g2
    · rw [drop_nil s _ hk2, rmF] at g2
      rw [← g2]
  | false =>
    obtain ⟨j1, j2, j3⟩ := i2 hc
    rw [hc, if_neg (by decide)] at hin
    rw [j1] at g2
    have hsaid : (said ++ if sg + 1 = 1 then t else []) = if sg = 0 then inR (t.take (wi 1 t)) else said := by
      by_cases h0 : sg = 0
      · rw [if_pos (by omega), if_pos h0, h3 h0, hin, List.nil_append]
      · rw [if_neg (by omega), if_neg h0, List.append_nil]
    rw [hsaid] at g2
    refine ⟨sg + 1, by omega, fun hk2 => absurd hk2 (by omega), fun hk2 => ?_, fun h => absurd h (by simp), hsz, by simp only; omega, by omega⟩
    rw [← g2]
def boxCells : Array Value := #[.string ⟨#[]⟩, .string ⟨#[]⟩]
set_option maxHeartbeats 16000000 in
theorem box08_any (s : ByteArray) (w : World) (hs : s.size ≤ 1048576) :
    Calls Tryz.prog 73 #[.string s] w fun e w' => e = .returned (boxV (boxR s.data.toList)) ∧ Below w.heap.size w w' := by
  obtain ⟨W, hW⟩ : ∃ W, W = w.alloc (.cells #[.string ⟨#[]⟩, .string ⟨#[]⟩] 79) := ⟨_, rfl⟩
  have hWz : W.heap.size = w.heap.size + 1 := by rw [hW]; exact World.size_alloc ..
  have KF : Hid (∀ w' D M, Below W.heap.size W w' → Below w.heap.size w ((w'.setCell ⟨w.heap.size, 0, none⟩ D).setCell ⟨w.heap.size, 1, none⟩ M)) :=
    hide fun w' D M h => (((Below.refl w.heap.size w).alloc (Nat.le_refl _) _).trans ((hW ▸ h).mono (by rw [World.size_alloc]; exact Nat.le_succ _))).setCell (Nat.le_refl _) _ |>.setCell (Nat.le_refl _) _
  have KR : Hid (∀ w', Below W.heap.size W w' → w'.heap[w.heap.size]? = some (.cells #[.string ⟨#[]⟩, .string ⟨#[]⟩] 79)) :=
    hide fun w' h => (h.block w.heap.size (by rw [hWz]; exact Nat.lt_succ_self _)).trans (by rw [hW]; exact heap_alloc_new w _)
  have KZ : Hid (∀ w2 : World, w2.heap[w.heap.size]? = some (.cells #[.string ⟨#[]⟩, .string ⟨#[]⟩] 79) → ∀ i, w2.frozen? ⟨w.heap.size, i, none⟩ = false) := hide fun w2 h i => by unfold World.frozen?; rw [h]; simp
  have CP := hide (places_any s W hs)
  have HW := hide hW
  clear hWz
  go_enter Tryz.func73, Tryz.ntmps73
  go_wp2_with fail
  rw [← hW]
  clear hW
  refine CP.out.mono ?_
  rintro e w1 ⟨g, rfl, hi⟩
  have HI := hide hi
  have K1 := hide hi.2.1
  clear hi
  go_wp2_with fail
  go_loopw [4] (fun iv wr => ∃ k : Nat, k ≤ s.size ∧ iv = .int .i64 k ∧ Hid (wr = w1) ∧ Hid (angF (stAt (s.data.toList.take k)) (s.data.toList.take k) (s.data.toList.drop k) = angF m0 [] s.data.toList)) (fun iv _ => s.size - (intOf iv).toNat)
  case atStart => exact ⟨0, Nat.zero_le _, rfl, hide rfl, hide rfl⟩
  case round =>
    obtain ⟨k, hk, rfl, HWR, HG⟩ := hrel
    obtain rfl : w1 = wr := HWR.out.symm
    have k6 : k ≤ 1048576 := by omega
    by_cases hlt : k < s.size
    · have hcell := HI.out.at k hlt
      have hG := HG.out
      have hdr := drop_cons s k hlt
      rw [hdr] at hG
      obtain ⟨P, hP⟩ : ∃ P, P = (takeB (stAt (s.data.toList.take k)) s[k]).1 := ⟨_, rfl⟩
      rw [← hP] at hcell
      by_cases hhit : P = 0 ∧ s[k] = 60
      · obtain ⟨h0, h60⟩ := hhit
        have t60 : ((s[k].toNat : Int) == 60) = true := tT 60 h60 (by decide)
        have t60b : ((s[k].toNat : Int) != 60) = false := by rw [bne, t60]; rfl
        have z0 : ((gP P : Nat) : Int) = 0 := by rw [h0]; rfl
        rw [z0] at hcell
        rw [angF_hit _ _ _ (by rw [← hP]; exact h0) h60, st_step s k hlt] at hG
        obtain ⟨B, hB⟩ : ∃ B, B = inF (stAt (s.data.toList.take (k + 1))) (s.data.toList.drop (k + 1)) := ⟨_, rfl⟩
        rw [← hB] at hG
        obtain ⟨N1, hN1⟩ : ∃ N1, N1 = s.extract 0 k := ⟨_, rfl⟩
        have hN1l : N1.data.toList = s.data.toList.take k := by rw [hN1, extract_list, List.drop_zero]
        have hN1z : N1.size ≤ 1048576 := by rw [hN1, ByteArray.size_extract]; omega
        have CN := hide (fun (w : World) => name08_any N1 w hN1z)
        obtain ⟨NM, hNM⟩ : ∃ NM, NM = str (nameR N1.data.toList) := ⟨_, rfl⟩
        rw [← hNM] at CN
        have HBOX : Hid (∀ T : ByteArray, T.data.toList = B → boxV (boxR s.data.toList) = .agg #[.string NM, .string (str (trP T.data.toList))]) := hide (fun T hT => by
          unfold boxR
          rw [← hG]
          simp only
          unfold boxV
          rw [hNM, hN1l, hT])
        have HB := hide hB
        have HN1 := hide hN1
        have q1 : (k : Int) ≤ s.size := by omega
        clear hG hdr hP h0 h60 z0 hB hN1 hN1l hNM
        go_wp2_with fail
        go_loopw [5] (fun tv wr => ∃ t : Nat, k + 1 ≤ t ∧ t ≤ s.size ∧ tv = .int .i64 t ∧ Hid (wr = w1) ∧ Hid ((s.extract (k + 1) t).data.toList ++ inF (stAt (s.data.toList.take t)) (s.data.toList.drop t) = B)) (fun tv _ => s.size - (intOf tv).toNat)
        case atStart => exact ⟨k + 1, Nat.le_refl _, hlt, by go_num, by first | exact hide rfl | exact trivial, hide (by rw [extract_none, HB.out]; rfl)⟩
        case round =>
          obtain ⟨t, htk, hts, rfl, HWT, HT⟩ := hrel
          obtain rfl : w1 = wr := HWT.out.symm
          have t6 : t ≤ 1048576 := by omega
          clear hcell
          by_cases htl : t < s.size
          · have tcell := HI.out.at t htl
            have hT := HT.out
            have hdt := drop_cons s t htl
            rw [hdt] at hT
            have hsn := extract_snoc s (k + 1) t htk htl
            obtain ⟨Q, hQ⟩ : ∃ Q, Q = (takeB (stAt (s.data.toList.take t)) s[t]).1 := ⟨_, rfl⟩
            rw [← hQ] at tcell
            by_cases hend : Q = 0 ∧ s[t] = 62
            · obtain ⟨q0, h62⟩ := hend
              have u62 : ((s[t].toNat : Int) == 62) = true := tT 62 h62 (by decide)
              have u62b : ((s[t].toNat : Int) != 62) = false := by rw [bne, u62]; rfl
              have y0 : ((gP Q : Nat) : Int) = 0 := by rw [q0]; rfl
              rw [y0] at tcell
              rw [inF_hit _ _ (by rw [← hQ]; exact q0) h62, List.append_nil] at hT
              obtain ⟨T, hTT⟩ : ∃ T, T = s.extract (k + 1) t := ⟨_, rfl⟩
              rw [← hTT] at hT
              have hTz : T.size ≤ 1048576 := by rw [hTT, ByteArray.size_extract]; omega
              have CT := hide (fun (w : World) => trim07_any T w (by unfold maxLen; omega))
              obtain ⟨TM, hTM⟩ : ∃ TM, TM = str (trP T.data.toList) := ⟨_, rfl⟩
              rw [← hTM] at CT
              have HV : Hid (boxV (boxR s.data.toList) = .agg #[.string NM, .string TM]) := hide (by rw [hTM]; exact HBOX.out T hT)
              have HTT := hide hTT
              have p1 : (k : Int) + 1 ≤ t := by omega
              have p2 : (t : Int) ≤ s.size := by omega
              have p3 : IntKind.i64.wrap ((k : Int) + 1) = (k : Int) + 1 := IntWalk.i64_in _ (by omega)
              have p4 : (0 : Int) ≤ (k : Int) + 1 := by omega
              have p5 : ((k : Int) + 1).toNat = k + 1 := by omega
              clear hT hdt hsn hQ q0 h62 y0 hTT hTM HBOX
              go_wp2_with fail
              go_region_with (first
                | (rw [← HN1.out]; with_reducible refine (CN.out _).mono ?_; rintro e w5 ⟨rfl, hb5⟩; have K5 := hide (K1.out.drew.trans (hb5.mono K1.out.drew.size)); have kr := KR.out _ K5.out; have KW := hide kr; have k0 := cell_of_row w5 w.heap.size 0 _ _ _ kr; have k1 := cell_of_row w5 w.heap.size 1 _ _ _ kr; have k2 := KZ.out w5 kr; clear kr hb5)
                | (rw [← HTT.out]; with_reducible refine (CT.out _).mono ?_; rintro e w6 ⟨rfl, rfl⟩))
              all_goals
                try go_wp2_with fail
                have r0 : ((w5.setCell ⟨w.heap.size, 0, none⟩ (.string NM)).setCell ⟨w.heap.size, 1, none⟩ (.string TM)).heap[w.heap.size]? = some (.cells #[.string NM, .string TM] 79 (0, 0)) := cells_set8 _ (cells_set8 _ KW.out)
                refine bodyPost_ret (results_cell_row rfl _ _ w.heap.size _ _ _ _ rfl r0 Tryz.underlying79 rfl (by kernel_rfl)) rfl ?_
                exact ⟨by rw [HV.out] <;> rfl, KF.out _ _ _ K5.out⟩
            · have hT2 : (s.extract (k + 1) (t + 1)).data.toList ++ inF (stAt (s.data.toList.take (t + 1))) (s.data.toList.drop (t + 1)) = B := by
                rw [inF_go _ _ (by rw [← hQ]; exact hend), st_step s t htl] at hT
                rw [hsn, ← hT, List.append_assoc]; rfl
              have HT2 := hide hT2
              by_cases q0 : Q = 0
              · have y0 : ((gP Q : Nat) : Int) = 0 := by rw [q0]; rfl
                rw [y0] at tcell
                have h62 : s[t] ≠ 62 := fun e => hend ⟨q0, e⟩
                have u62 : ((s[t].toNat : Int) == 62) = false := tF 62 h62 (by decide)
                have u62b : ((s[t].toNat : Int) != 62) = true := by rw [bne, u62]; rfl
                clear hT hT2 hdt hsn hQ q0 h62 y0 hend
                go_wp2_with fail
                go_roundw
                case rel => exact ⟨t + 1, by omega, by omega, by go_num, by first | exact trivial | exact hide rfl, HT2⟩
                case measure => simp [intOf]; omega
              · obtain ⟨z, hz⟩ : ∃ z : Int, z = ((gP Q : Nat) : Int) := ⟨_, rfl⟩
                have z0 : (z == 0) = false := by
                  rw [beq_eq_false_iff_ne, hz]
                  intro e
                  exact q0 ((gP_zero Q).1 (by omega))
                have z1 : (z != 0) = true := by rw [bne, z0]; rfl
                rw [← hz] at tcell
                clear hT hT2 hdt hsn hQ q0 hz hend
                go_wp2_with fail
                go_roundw
                case rel => exact ⟨t + 1, by omega, by omega, by go_num, by first | exact trivial | exact hide rfl, HT2⟩
                case measure => simp [intOf]; omega
          · have hT := HT.out
            rw [drop_nil s t (by omega), inF, List.append_nil] at hT
            obtain ⟨T, hTT⟩ : ∃ T, T = s.extract (k + 1) t := ⟨_, rfl⟩
            rw [← hTT] at hT
            have hTz : T.size ≤ 1048576 := by rw [hTT, ByteArray.size_extract]; omega
            have CT := hide (fun (w : World) => trim07_any T w (by unfold maxLen; omega))
            obtain ⟨TM, hTM⟩ : ∃ TM, TM = str (trP T.data.toList) := ⟨_, rfl⟩
            rw [← hTM] at CT
            have HV : Hid (boxV (boxR s.data.toList) = .agg #[.string NM, .string TM]) := hide (by rw [hTM]; exact HBOX.out T hT)
            have HTT := hide hTT
            have p1 : (k : Int) + 1 ≤ t := by omega
            have p2 : (t : Int) ≤ s.size := by omega
            have p3 : IntKind.i64.wrap ((k : Int) + 1) = (k : Int) + 1 := IntWalk.i64_in _ (by omega)
            have p4 : (0 : Int) ≤ (k : Int) + 1 := by omega
            have p5 : ((k : Int) + 1).toNat = k + 1 := by omega
            clear hT hTT hTM HBOX
            go_wp2_with fail
            go_region_with (first
              | (rw [← HN1.out]; with_reducible refine (CN.out _).mono ?_; rintro e w5 ⟨rfl, hb5⟩; have K5 := hide (K1.out.drew.trans (hb5.mono K1.out.drew.size)); have kr := KR.out _ K5.out; have KW := hide kr; have k0 := cell_of_row w5 w.heap.size 0 _ _ _ kr; have k1 := cell_of_row w5 w.heap.size 1 _ _ _ kr; have k2 := KZ.out w5 kr; clear kr hb5)
              | (rw [← HTT.out]; with_reducible refine (CT.out _).mono ?_; rintro e w6 ⟨rfl, rfl⟩))
            all_goals
              try go_wp2_with fail
              have r0 : ((w5.setCell ⟨w.heap.size, 0, none⟩ (.string NM)).setCell ⟨w.heap.size, 1, none⟩ (.string TM)).heap[w.heap.size]? = some (.cells #[.string NM, .string TM] 79 (0, 0)) := cells_set8 _ (cells_set8 _ KW.out)
              refine bodyPost_ret (results_cell_row rfl _ _ w.heap.size _ _ _ _ rfl r0 Tryz.underlying79 rfl (by kernel_rfl)) rfl ?_
              exact ⟨by rw [HV.out] <;> rfl, KF.out _ _ _ K5.out⟩
      · have hG2 : angF (stAt (s.data.toList.take (k + 1))) (s.data.toList.take (k + 1)) (s.data.toList.drop (k + 1)) = angF m0 [] s.data.toList := by
          rw [angF_go _ _ _ (by rw [← hP]; exact hhit), st_step s k hlt, ← take_snoc s k hlt] at hG
          exact hG
        have HG2 := hide hG2
        by_cases p0 : P = 0
        · have y0 : ((gP P : Nat) : Int) = 0 := by rw [p0]; rfl
          rw [y0] at hcell
          have h60 : s[k] ≠ 60 := fun e => hhit ⟨p0, e⟩
          have t60 : ((s[k].toNat : Int) == 60) = false := tF 60 h60 (by decide)
          have t60b : ((s[k].toNat : Int) != 60) = true := by rw [bne, t60]; rfl
          clear hG hG2 hdr hP p0 h60 y0 hhit
          go_wp2_with fail
          go_roundw
          case rel => exact ⟨k + 1, by omega, by go_num, by first | exact trivial | exact hide rfl, HG2⟩
          case measure => simp [intOf]; omega
        · obtain ⟨z, hz⟩ : ∃ z : Int, z = ((gP P : Nat) : Int) := ⟨_, rfl⟩
          have z0 : (z == 0) = false := by
            rw [beq_eq_false_iff_ne, hz]
            intro e
            exact p0 ((gP_zero P).1 (by omega))
          have z1 : (z != 0) = true := by rw [bne, z0]; rfl
          rw [← hz] at hcell
          clear hG hG2 hdr hP p0 hz hhit
          go_wp2_with fail
          go_roundw
          case rel => exact ⟨k + 1, by omega, by go_num, by first | exact trivial | exact hide rfl, HG2⟩
          case measure => simp [intOf]; omega
    · have HNO : Hid (angF m0 [] s.data.toList = none) := hide (by
        have := HG.out
        rw [drop_nil s k (by omega), angF] at this
        exact this.symm)
      have HB0 := hide (Buf.nil (Below.refl w1.heap.size w1) (Nat.le_refl _))
      have HR0 := hide (RmK.start s)
      go_wp2_with fail
      go_loopw [6, 7, 8, 9] (fun ov rv fv iv wr => ∃ (k sg : Nat) (rest said : List UInt8), k ≤ s.size ∧ iv = .int .i64 k ∧ rv = .string (str said) ∧ fv = .bool (decide (0 < sg)) ∧ Hid (RmK s k (sg, rest, said)) ∧ Hid (Buf w1.heap.size ov rest w1 wr)) (fun _ _ _ iv _ => s.size - (intOf iv).toNat)
      case atStart => exact ⟨0, 0, [], [], Nat.zero_le _, rfl, rfl, rfl, HR0, HB0⟩
      case round =>
        obtain ⟨k, sg, rest, said, hk, rfl, rfl, rfl, HRM, HB⟩ := hrel
        have k6 : k ≤ 1048576 := by omega
        by_cases hlt : k < s.size
        · have hcell := (HI.out.kept HB.out.below).at k hlt
          obtain ⟨SD, hSD⟩ : ∃ SD, SD = str said := ⟨_, rfl⟩
          obtain ⟨fb, hfb⟩ : ∃ fb, fb = decide (0 < sg) := ⟨_, rfl⟩
          rw [← hSD, ← hfb]
          by_cases h2 : gP (takeB (stAt (s.data.toList.take k)) s[k]).1 = 2
          · obtain ⟨e40, hN, sg', hsg', hrm⟩ := HRM.out.remark hlt h2
            have z2 : ((gP (takeB (stAt (s.data.toList.take k)) s[k]).1 : Nat) : Int) = 2 := by rw [h2]; rfl
            rw [z2] at hcell
            simp only at hrm
            obtain ⟨wn, hwn⟩ : ∃ wn, wn = wi 1 (s.data.toList.drop (k + 1)) := ⟨_, rfl⟩
            rw [← hwn] at hN hrm
            -- the rest of the text
            obtain ⟨Y, hY⟩ : ∃ Y, Y = s.extract k s.size := ⟨_, rfl⟩
            have hYz : Y.size = s.size - k := by rw [hY, ByteArray.size_extract]; omega
            have hYl : Y.data.toList = s[k] :: s.data.toList.drop (k + 1) := by rw [hY, extract_end, drop_cons s k hlt]
            have hY0 : 0 < Y.size := by omega
            have hYc := drop_cons Y 0 hY0
            rw [List.drop_zero, hYl] at hYc
            injection hYc with hYc hYd0
            clear hYd0
            have hYd : s.data.toList.drop (k + 1) = Y.data.toList.drop 1 := by rw [hYl]; rfl
            rw [e40] at hYc
            have CW := hide (fun (w : World) => within08_any Y w (by omega) hY0 hYc.symm)
            rw [← hYd, ← hwn] at CW
            -- the remark
            obtain ⟨Z, hZ⟩ : ∃ Z, Z = s.extract k (k + 1 + wn) := ⟨_, rfl⟩
            have hZz : Z.size = 1 + wn := by rw [hZ, ByteArray.size_extract]; omega
            have hZl : Z.data.toList = s[k] :: (s.data.toList.drop (k + 1)).take wn := by
              rw [hZ, extract_list, show k + 1 + wn = k + (1 + wn) by omega, List.take_add, List.drop_append_of_le_length (by rw [List.length_take, toList_length]; omega), List.drop_eq_nil_of_le (by rw [List.length_take]; omega), List.nil_append, drop_cons s k hlt, show 1 + wn = wn + 1 by omega, List.take_succ_cons]
            have hZ0 : 0 < Z.size := by omega
            have hZc := drop_cons Z 0 hZ0
            rw [List.drop_zero, hZl] at hZc
            injection hZc with hZc hZd0
            clear hZd0
            have hZd : (s.data.toList.drop (k + 1)).take wn = Z.data.toList.drop 1 := by rw [hZl]; rfl
            rw [e40] at hZc
            have CI := hide (fun (w : World) => inner_any Z w (by omega) hZ0 hZc.symm)
            rw [← hZd] at CI
            have eN : ((1 + wn : Nat) : Int) = 1 + (wn : Int) := by omega
            rw [eN] at CW
            have HY := hide hY
            have HZ := hide hZ
            have a1 : (k : Int) ≤ s.size := by omega
            have a2 : IntKind.i64.wrap ((k : Int) + (1 + (wn : Int))) = ((k + 1 + wn : Nat) : Int) := by rw [IntWalk.i64_in _ (by omega)]; omega
            have a3 : (k : Int) ≤ ((k + 1 + wn : Nat) : Int) := by omega
            have a4 : ((k + 1 + wn : Nat) : Int) ≤ s.size := by omega
            have a5 : IntKind.i64.wrap (((k + 1 + wn : Nat) : Int) - 1) = ((k + wn : Nat) : Int) := by rw [IntWalk.i64_in _ (by omega)]; omega
            have a6 : IntKind.i64.wrap (((k + wn : Nat) : Int) + 1) = ((k + 1 + wn : Nat) : Int) := by rw [IntWalk.i64_in _ (by omega)]; omega
            have k7 : k + 1 + wn ≤ 1048576 := by omega
            by_cases hs0 : sg = 0
            · have f0 : fb = false := by rw [hfb, hs0]; rfl
              subst f0
              rw [if_pos hs0] at hrm
              obtain ⟨RM, hRM⟩ : ∃ RM, RM = str (inR ((s.data.toList.drop (k + 1)).take wn)) := ⟨_, rfl⟩
              rw [← hRM] at CI
              have HRV : Hid (Value.string RM = .string (str (inR ((s.data.toList.drop (k + 1)).take wn)))) := hide (by rw [hRM])
              have HFV : Hid (Value.bool true = .bool (decide (0 < sg'))) := hide (by rw [decide_eq_true hsg'])
              have HRN := hide hrm
              clear hrm hN hwn hY hYl hYc hYd hZ hZl hZc hZd e40 h2 z2 hSD hfb hs0 hRM eN HRM
              go_wp2_with (first
                | (go_at_call 119; rw [← HY.out]; refine (CW.out _).mono ?_; rintro e w5 ⟨rfl, rfl⟩)
                | (go_at_call 120; first | rw [← HZ.out] | skip; refine (CI.out _).mono ?_; rintro e w6 ⟨rfl, rfl⟩))
              go_roundw
              case rel => exact ⟨k + 1 + wn, sg', rest, _, by omega, by first | rfl | (rw [a6]) | go_num, HRV.out, HFV.out, HRN, HB⟩
              case measure => simp [intOf]; omega
            · have f0 : fb = true := by rw [hfb]; exact decide_eq_true (by omega)
              subst f0
              rw [if_neg hs0] at hrm
              have HRV : Hid (Value.string SD = .string (str said)) := hide (by rw [hSD])
              have HFV : Hid (Value.bool true = .bool (decide (0 < sg'))) := hide (by rw [decide_eq_true hsg'])
              have HRN := hide hrm
              clear hrm hN hwn hY hYl hYc hYd hZ hZl hZc hZd e40 h2 z2 hSD hfb hs0 eN HRM
              go_wp2_with (first
                | (go_at_call 119; rw [← HY.out]; refine (CW.out _).mono ?_; rintro e w5 ⟨rfl, rfl⟩))
              go_roundw
              case rel => exact ⟨k + 1 + wn, sg', rest, _, by omega, by first | rfl | (rw [a6]) | go_num, HRV.out, HFV.out, HRN, HB⟩
              case measure => simp [intOf]; omega
          · have hout := HRM.out.out hlt (gP_not (HRM.out.1 hlt).1 h2)
            simp only at hout
            obtain ⟨z, hz⟩ : ∃ z : Int, z = ((gP (takeB (stAt (s.data.toList.take k)) s[k]).1 : Nat) : Int) := ⟨_, rfl⟩
            have z0 : (z == 2) = false := by
              rw [beq_eq_false_iff_ne, hz]
              intro e
              exact h2 (by omega)
            have z1 : (z != 2) = true := by rw [bne, z0]; rfl
            rw [← hz] at hcell
            have HRN := hide hout
            have HRV : Hid (Value.string SD = .string (str said)) := hide (by rw [hSD])
            have HFV : Hid (Value.bool fb = .bool (decide (0 < sg))) := hide (by rw [hfb])
            have HLN : Hid (rest.length + 1 ≤ 140737488355328) := hide (by have := HRM.out.2.2.2.2.1; simp only at this; omega)
            clear h2 hz hSD hfb hout
            go_wp2_with (at_builtin; go_must (refine wpList_buf_byte rfl _ _ rfl w1.heap.size u6 rest rfl w1 wr (s[k]'hlt) HB.out rfl HLN.out ?_; intro v2 w2 hb2; have HB2 := hide hb2; clear hb2))
            go_roundw
            case rel => exact ⟨k + 1, sg, _, said, by omega, by go_num, HRV.out, HFV.out, HRN, HB2⟩
            case measure => simp [intOf]; omega
        · obtain ⟨h1, h2, h3, h4, h5, h6⟩ := HRM.out
          have hF := h2 (by omega)
          simp only at hF h4 h5
          obtain ⟨SD, hSD⟩ : ∃ SD, SD = str said := ⟨_, rfl⟩
          have hSDl : SD.data.toList = said := by rw [hSD, str_toList]
          have hSDz : SD.size ≤ 1048576 := by rw [hSD, str_size]; omega
          obtain ⟨X, hX⟩ : ∃ X, X = str rest := ⟨_, rfl⟩
          have hXl : X.data.toList = rest := by rw [hX, str_toList]
          have hXz : X.size ≤ 1048576 := by rw [hX, str_size]; omega
          have CN := hide (fun (w : World) => name2_any SD w hSDz)
          have CT := hide (fun (w : World) => trim07_any X w (by unfold maxLen; omega))
          obtain ⟨NM, hNM⟩ : ∃ NM, NM = str (decW false [] (trP (unpairL SD.data.toList))) := ⟨_, rfl⟩
          obtain ⟨TM, hTM⟩ : ∃ TM, TM = str (trP X.data.toList) := ⟨_, rfl⟩
          rw [← hNM] at CN
          rw [← hTM] at CT
          have HV : Hid (boxV (boxR s.data.toList) = .agg #[.string NM, .string TM]) := hide (by
            unfold boxR
            rw [HNO.out]
            simp only
            rw [← hF]
            unfold boxV
            rw [hNM, hTM, hSDl, hXl])
          have K2 := hide (K1.out.trans (HB.out.below.mono K1.out.size))
          have hcv : (convert 67 9 u6).run Tryz.prog wr = .ok (.string X) wr := by rw [hX]; exact HB.out.convert
          have hcd : (convert 67 9 u6).run Tryz.prog wr.drew = .ok (.string X) wr.drew := by rw [hX]; exact HB.out.drew.convert
          have HCV : Hid (∀ w5, Below wr.drew.heap.size wr.drew w5 → (convert 67 9 u6).run Tryz.prog w5 = .ok (.string X) w5) := hide (fun w5 hb => by rw [hX]; exact (HB.out.drew.kept hb).convert)
          rw [← hSD]
          clear h1 h2 h3 h4 h5 h6 hF hSD hSDl hSDz hX hXl hXz hNM hTM HRM
          go_wp2_with fail
          go_region_with (first
            | (with_reducible refine (CN.out _).mono ?_; rintro e w5 ⟨rfl, hb5⟩; have K5 := hide (K2.out.drew.trans (hb5.mono K2.out.drew.size)); have hcv5 := HCV.out _ hb5; have kr := KR.out _ K5.out; have KW := hide kr; have k0 := cell_of_row w5 w.heap.size 0 _ _ _ kr; have k1 := cell_of_row w5 w.heap.size 1 _ _ _ kr; have k2 := KZ.out w5 kr; clear kr hb5)
            | (with_reducible refine (CT.out _).mono ?_; rintro e w6 ⟨rfl, rfl⟩))
          all_goals
            try go_wp2_with fail
            have r0 : ((w5.setCell ⟨w.heap.size, 0, none⟩ (.string NM)).setCell ⟨w.heap.size, 1, none⟩ (.string TM)).heap[w.heap.size]? = some (.cells #[.string NM, .string TM] 79 (0, 0)) := cells_set8 _ (cells_set8 _ KW.out)
            refine bodyPost_ret (results_cell_row rfl _ _ w.heap.size _ _ _ _ rfl r0 Tryz.underlying79 rfl (by kernel_rfl)) rfl ?_
            exact ⟨by rw [HV.out] <;> rfl, KF.out _ _ _ K5.out⟩
end Go.Proofs.YtcmmbceacjechaaGreatDoor
