/- WALK of the reference of layer 8: Parse. No statement is proved here. -/
import Derived.Test.YtcmmbceacjechaaGreatDoorRef08E
import Derived.Test.YtcmmbceacjechaaGreatDoorRef08G
import Derived.Test.YtcmmbceacjechaaGreatDoorBaseO
namespace Go.Proofs.YtcmmbceacjechaaGreatDoor
open Go.RowKit
set_option linter.unusedVariables false
set_option linter.unusedSimpArgs false
set_option maxRecDepth 100000
theorem boxR_two (l : List UInt8) : (boxR l).2 = tr4 (nmF l).2 := by
  unfold boxR nmF
  cases angF m0 [] l with
  | none => rfl
  | some p => obtain ⟨a, b⟩ := p; rfl
theorem boxR_size (s : ByteArray) : (boxR s.data.toList).2.length ≤ s.size := by
  rw [boxR_two, ← nmOut_F]
  refine Nat.le_trans (tr4_length _) ?_
  unfold nmOut
  split
  · simp only; rw [toList_length]; exact (angOut_size s).2
  · exact (rmAt_bd s s.size).2.1
/-- the boxes that are told of texts -/
def boxesR (l : List ByteArray) : List BoxL := (l.map fun x => readF x.data.toList).filter tells
theorem boxesR_cons (t : ByteArray) (l : List ByteArray) : boxesR (t :: l) = (if tells (readF t.data.toList) then [readF t.data.toList] else []) ++ boxesR l := by
  unfold boxesR
  rw [List.map_cons, List.filter_cons]
  split <;> rfl
theorem BBuf.lower8 {B B' : Nat} {v : Value} {l : List BoxL} {W0 W1 w : World} (h : BBuf B v l W1 w) (hB : B' ≤ B) (hb : Below B' W0 W1) : BBuf B' v l W0 w := by
  obtain ⟨⟨h1, h2⟩, h3, h4⟩ := h
  refine ⟨⟨h1, ?_⟩, hb.trans (h3.mono hB), Nat.le_trans hB h4⟩
  rcases h2 with h2 | ⟨g, cap, cur, e, hg, rest⟩
  · exact .inl h2
  · exact .inr ⟨g, cap, cur, e, Nat.le_trans hB hg, rest⟩
set_option maxHeartbeats 8000000 in
theorem refParse08_any (s : ByteArray) (w : World) (hs : s.size ≤ 200000) :
    Calls Tryz.prog 30 #[.string s] w fun e w' => ∃ v, e = .returned v ∧ BBuf w.heap.size v (parseF s.data.toList) w w' := by
  have CT := hide (cut08_any s w (by omega))
  have HPF : Hid (∀ ps : List ByteArray, ps.map (fun x => x.data.toList) = boxF m0 false [] s.data.toList → parseF s.data.toList = boxesR ps) := hide (fun ps h => by
    unfold parseF boxesR
    rw [← h, List.map_map]; rfl)
  have HSZ : Hid (∀ ps : List ByteArray, ps.map (fun x => x.data.toList) = boxF m0 false [] s.data.toList → ∀ x ∈ ps, x.size ≤ 200000) := hide (fun ps h x hx => by
    have h2 : x.data.toList ∈ boxF m0 false [] s.data.toList := by rw [← h]; exact List.mem_map.2 ⟨x, hx, rfl⟩
    rw [← boxL_F] at h2
    obtain ⟨y, hy, e⟩ := List.mem_map.1 h2
    have h3 := boxL_sizes s y hy
    rw [← toList_length, ← e, toList_length]; omega)
  go_enter Tryz.func30, Tryz.ntmps30
  go_wp2_with fail
  refine CT.out.mono ?_
  rintro e w1 ⟨v, L, rfl, hv, hps, hln⟩
  have HB1 := hide hv.below
  have HPP := hide (HPF.out L hps)
  have HLZ := hide (HSZ.out L hps)
  have HFM := hide hv.form
  obtain ⟨A, cap, rfl⟩ := hv.slice_len
  obtain ⟨n, hn⟩ : ∃ n, n = L.length := ⟨_, rfl⟩
  rw [← hn]
  have hn2 : n ≤ 200001 := by omega
  have HN := hide hn
  clear hv hps hln hn
  go_wp2_with fail
  go_loopw [4, 5] (fun o i wr => ∃ (k : Nat) (acc : List BoxL), k ≤ n ∧ i = .int .i64 k ∧ acc.length ≤ k ∧ Hid (BBuf w1.heap.size o acc w1 wr) ∧ Hid (acc ++ boxesR (L.drop k) = boxesR L)) (fun _ i _ => n - (intOf i).toNat)
  case atStart => exact ⟨0, [], Nat.zero_le _, rfl, Nat.le_refl _, hide (BBuf.nil (Below.refl _ _) (Nat.le_refl _)), hide rfl⟩
  case round =>
    obtain ⟨k, acc, hk, rfl, hal, HB, HE⟩ := hrel
    have k6 : k ≤ 200001 := by omega
    by_cases hlt : k < n
    · have hl : k < L.length := by have := HN.out; omega
      have hd : L.drop k = L[k] :: L.drop (k + 1) := List.drop_eq_getElem_cons hl
      have zt := HLZ.out L[k] (List.getElem_mem hl)
      obtain ⟨g, rfl, hg2, hc0⟩ : ∃ g, A = some ⟨g, 0, none⟩ ∧ g < w1.heap.size ∧ w1.cell? ⟨g, k, none⟩ = some (.string L[k]) := by
        rcases HFM.out with ⟨_, h⟩ | ⟨g, cap2, he, _, _, _, hg2, hcells⟩
        · rw [h] at hl; exact absurd hl (Nat.not_lt_zero _)
        · injection he with he _ _
          refine ⟨g, he, hg2, ?_⟩
          have := hcells k L[k] (List.getElem?_eq_getElem hl)
          rwa [Nat.zero_add] at this
      have c1 := (HB.out.below.cell (p := ⟨g, k, none⟩) hg2).trans hc0
      obtain ⟨T, hTT⟩ : ∃ T, L[k] = T := ⟨_, rfl⟩
      rw [hTT] at hd zt c1
      have CB := hide (box08_any T wr (by omega))
      have hsz := boxR_size T
      have HN0 : Hid (acc ++ ((if tells (readF T.data.toList) then [readF T.data.toList] else []) ++ boxesR (L.drop (k + 1))) = boxesR L) := hide (by rw [← boxesR_cons, ← hd]; exact HE.out)
      rw [boxR_read] at HN0
      obtain ⟨⟨bn, bm⟩, hb⟩ : ∃ b, boxR T.data.toList = b := ⟨_, rfl⟩
      rw [hb] at CB HN0 hsz
      simp only [boxV] at CB
      simp only at hsz HN0
      have HAL : Hid (acc.length + 1 ≤ 4398046511104) := hide (by omega)
      obtain ⟨X, hX⟩ : ∃ X, X = str bn := ⟨_, rfl⟩
      obtain ⟨Y, hY⟩ : ∃ Y, Y = str bm := ⟨_, rfl⟩
      rw [← hX, ← hY] at CB
      have CG := hide (fun (w : World) => refGood_any Y w (by rw [hY, str_size]; omega))
      rw [show Y.data.toList = bm by rw [hY, str_toList]] at CG
      have HXY := hide (And.intro hX hY)
      have sX : X.toList.isEmpty = bn.isEmpty := by rw [hX, str_list]
      have sY : Y.toList.isEmpty = bm.isEmpty := by rw [hY, str_list]
      clear hd hb hTT zt hsz hg2 hc0 hX hY
      cases hg : goodL bm with
      | true =>
        rw [hg] at CG HN0
        rw [if_pos rfl] at HN0
        have hbm : bm ≠ [] := by intro e; rw [e] at hg; exact absurd hg (by decide)
        have eY : Y.toList.isEmpty = false := by rw [sY]; cases bm with | nil => exact absurd rfl hbm | cons _ _ => rfl
        have ht : tells (bn, bm) = true := by cases bm with | nil => exact absurd rfl hbm | cons x r => cases bn <;> rfl
        have HNN : Hid ((acc ++ [(bn, bm)]) ++ boxesR (L.drop (k + 1)) = boxesR L) := hide (by rw [List.append_assoc]; have := HN0.out; rw [ht, if_pos rfl] at this; exact this)
        clear hg hbm ht HN0 sX sY
        go_wp2_with fail
        refine CB.out.mono ?_
        rintro e w2 ⟨rfl, hb2⟩
        have HB2 := hide (HB.out.kept hb2)
        have TN := two_box (w2.alloc (.cells #[.string X, .string Y] 79)) (.string X) (.string Y) 79
        rw [World.size_alloc] at TN
        have TN2 := hide TN
        clear hb2 TN
        go_wp2_with (first
          | (go_at_call 32; refine (CG.out _).mono ?_; rintro e w3 ⟨rfl, rfl⟩)
          | (at_builtin; go_must (refine wpList_boxes rfl _ _ rfl w1.heap.size u4 acc rfl w1 (bn, bm) ((HB2.out.alloc _).alloc _) ⟨w2.heap.size + 1, 0, none⟩ rfl (by show _ = some (Value.string (str bn)); rw [← HXY.out.1]; exact TN2.out.1) (by show _ = some (Value.string (str bm)); rw [← HXY.out.2]; exact TN2.out.2) HAL.out ?_; intro v4 w4 hb4; have HB4 := hide hb4; clear hb4)))
        go_roundw
        case rel => exact ⟨k + 1, _, by omega, by go_num, by simp; omega, HB4, HNN⟩
        case measure => simp [intOf]; omega
      | false =>
        rw [hg] at CG HN0
        simp only [Bool.false_eq_true, if_false] at HN0
        by_cases hbn : bn = []
        · have eX : X.toList.isEmpty = true := by rw [sX, hbn]; rfl
          have HNN : Hid (acc ++ boxesR (L.drop (k + 1)) = boxesR L) := hide (by have := HN0.out; rw [hbn, show tells ([], []) = false from rfl, if_neg (by decide), List.nil_append] at this; exact this)
          clear hg hbn HN0 sX sY
          go_wp2_with fail
          refine CB.out.mono ?_
          rintro e w2 ⟨rfl, hb2⟩
          have HB3 := hide ((HB.out.kept hb2).alloc (.cells #[.string X, .string ⟨#[]⟩] 79))
          clear hb2
          go_wp2_with (go_at_call 32; refine (CG.out _).mono ?_; rintro e w3 ⟨rfl, rfl⟩)
          go_roundw
          case rel => exact ⟨k + 1, acc, by omega, by go_num, by omega, HB3, HNN⟩
          case measure => simp [intOf]; omega
        · have eX : X.toList.isEmpty = false := by rw [sX]; cases bn with | nil => exact absurd rfl hbn | cons _ _ => rfl
          have ht : tells (bn, []) = true := by cases bn with | nil => exact absurd rfl hbn | cons x r => rfl
          have HNN : Hid ((acc ++ [(bn, [])]) ++ boxesR (L.drop (k + 1)) = boxesR L) := hide (by rw [List.append_assoc]; have := HN0.out; rw [ht, if_pos rfl] at this; exact this)
          clear hg hbn HN0 sX sY ht
          go_wp2_with fail
          refine CB.out.mono ?_
          rintro e w2 ⟨rfl, hb2⟩
          have HB3 := hide ((HB.out.kept hb2).alloc (.cells #[.string X, .string ⟨#[]⟩] 79))
          have TN := two_box (w2.alloc (.cells #[.string X, .string ⟨#[]⟩] 79)) (.string X) (.string ⟨#[]⟩) 79
          rw [World.size_alloc] at TN
          have TN2 := hide TN
          clear hb2 TN
          go_wp2_with (first
            | (go_at_call 32; refine (CG.out _).mono ?_; rintro e w3 ⟨rfl, rfl⟩)
            | (at_builtin; go_must (refine wpList_boxes rfl _ _ rfl w1.heap.size u4 acc rfl w1 (bn, []) (HB3.out.alloc _) ⟨w2.heap.size + 1, 0, none⟩ rfl (by show _ = some (Value.string (str bn)); rw [← HXY.out.1]; exact TN2.out.1) (by exact TN2.out.2) HAL.out ?_; intro v4 w4 hb4; have HB4 := hide hb4; clear hb4)))
          go_roundw
          case rel => exact ⟨k + 1, _, by omega, by go_num, by simp; omega, HB4, HNN⟩
          case measure => simp [intOf]; omega
    · have HF : Hid (acc = parseF s.data.toList) := hide (by
        have := HE.out
        rw [List.drop_eq_nil_of_le (by have := HN.out; omega), show boxesR [] = [] from rfl, List.append_nil] at this
        rw [this, HPP.out])
      go_wp2_with fail
      go_ret
      exact ⟨_, rfl, by rw [← HF.out]; exact HB.out.lower8 HB1.out.size HB1.out⟩
end Go.Proofs.YtcmmbceacjechaaGreatDoor
