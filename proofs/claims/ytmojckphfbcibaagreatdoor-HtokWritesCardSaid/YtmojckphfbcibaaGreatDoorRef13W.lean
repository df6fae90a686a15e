/- WALK of the reference's Write (layer 13). No statement is proved here. Own work of the verifier. -/
import Derived.Test.YtmojckphfbcibaaGreatDoorRef12W
import Derived.Test.YtmojckphfbcibaaGreatDoorHtokY
import Derived.Deep.RegionHeld3
namespace Go.Proofs.YtmojckphfbcibaaGreatDoor
open Go.RowKit
set_option linter.unusedVariables false
set_option linter.unusedSimpArgs false
set_option maxRecDepth 100000
theorem str_size_le {S : ByteArray} {l : List UInt8} {b : Nat} (h : S.data.toList = l) (hb : l.length ≤ b) : S.size ≤ b := by
  rw [← toList_length, h]; exact hb
set_option maxHeartbeats 8000000 in
theorem refWrite13_any (v : Value) (l : List TokG) (w : World) (h : ToksIn w v l) (hl : l.length ≤ 1000) (hf : ∀ p ∈ l, fitT p.2 = true) :
    Calls Tryz.prog 18 #[v] w fun e w' => e = .returned (.string (str (writeG l))) ∧ Below w.heap.size w w' := by
  obtain ⟨A, c, rfl⟩ := h.form
  obtain ⟨n, hn⟩ : ∃ n, l.length = n := ⟨_, rfl⟩
  have H := hide h
  have HF := hide hf
  have HNL := hide hn
  rw [hn] at H hl ⊢
  clear h hf hn
  go_enter Tryz.func18, Tryz.ntmps18
  go_wp2_with fail
  go_loopw [3, 4] (fun sv i wr => ∃ (k : Nat) (S : ByteArray), k ≤ n ∧ i = .int .i64 k ∧ sv = .string S ∧ Hid (S.data.toList = writeG (l.take k)) ∧ Hid (Below w.heap.size w wr)) (fun _ i _ => n - (intOf i).toNat)
  case atStart => exact ⟨0, ⟨#[]⟩, Nat.zero_le _, rfl, rfl, hide rfl, hide (Below.refl _ _)⟩
  case round =>
    obtain ⟨k, S, hk, rfl, rfl, HS, HB⟩ := hrel
    by_cases hlt : k < n
    · obtain ⟨f, hf⟩ : ∃ f, l[k]? = some f := ⟨_, List.getElem?_eq_getElem (by have := HNL.out; omega)⟩
      obtain ⟨a, d, y, ha, b1, b2, b3, b4, hA0⟩ := H.out.at k f hf
      subst ha
      have c1 := (HB.out.cell (World.block_lt_of_cell? _ _ b1)).trans b1
      have c2 := (HB.out.cell (World.block_lt_of_cell? _ _ b2)).trans b2
      have c3 := (HB.out.cell (World.block_lt_of_cell? _ _ b3)).trans b3
      have c4 := (HB.out.cell (World.block_lt_of_cell? _ _ b4)).trans b4
      obtain ⟨z1, z2, z3, z4⟩ := fitT_len (HF.out f (List.mem_of_getElem? hf))
      have hwl : (writeG (l.take k)).length ≤ 84500000 := by
        have h1 := writeG_len (l := l.take k) (fun p hp => HF.out p (List.mem_of_mem_take hp))
        have h2 : (l.take k).length ≤ n := by rw [List.length_take, HNL.out]; exact Nat.min_le_right _ _
        omega
      have zS : S.size ≤ 84500000 := str_size_le HS.out hwl
      have HNX : Hid (∀ z : ByteArray, z.data.toList = S.data.toList ++ tokG f → z.data.toList = writeG (l.take (k + 1))) := hide fun z hz => by rw [hz, HS.out, writeG_take hf]
      obtain ⟨X, hX⟩ : ∃ X, X = str f.2.name := ⟨_, rfl⟩
      obtain ⟨Y, hY⟩ : ∃ X, X = str f.2.text := ⟨_, rfl⟩
      have zX : X.size ≤ 300 := by rw [hX, str_size]; exact z1
      have zY : Y.size ≤ 300 := by rw [hY, str_size]; exact z2
      have HXL : Hid (X.data.toList = f.2.name) := hide (by rw [hX, str_toList])
      have HYL : Hid (Y.data.toList = f.2.text) := hide (by rw [hY, str_toList])
      obtain ⟨kf, hkf⟩ : ∃ z : Int, z = f.1 := ⟨_, rfl⟩
      obtain ⟨m, hm⟩ : ∃ m, m = f.2.attrs.length := ⟨_, rfl⟩
      rw [← hkf] at c1
      rw [← hX] at c2
      rw [← hY] at c3
      rw [← hm] at c4 b4 hA0
      have HCELL : Hid (∀ w2, Below w.heap.size w w2 → w2.cell? { block := (a.add (k * 4)).block, off := (a.add (k * 4)).off + 2 } = some (.slice d m y) ∧ AttrsIn w2 (.slice d m y) f.2.attrs) := hide fun w2 h => ⟨(h.cell (World.block_lt_of_cell? _ _ b4)).trans b4, hA0.kept h⟩
      have HZ := hide z4
      have HML : Hid (f.2.attrs.length = m) := hide hm.symm
      have hm40 : m ≤ 40 := by rw [hm]; exact z3
      clear hf hwl hX hY hm z1 z2 z3 z4 hA0 b1 b2 b3 b4
      by_cases k1 : kf = 1
      · have s1 : (kf == 1) = true := by rw [k1]; rfl
        have HT := fun w2 => hide (refText12_any Y w2 (by omega))
        obtain ⟨Q, hQ⟩ : ∃ Q, Q = str (escQ false Y.data.toList) := ⟨_, rfl⟩
        have zQ : Q.size ≤ 1800 := by
          rw [hQ, str_size]
          have := esc_len false Y.data.toList
          rw [toList_length] at this; omega
        rw [← hQ] at HT
        have HQL : Hid (Q.data.toList = tokG f) := hide (by rw [hQ, str_toList, HYL.out, tokG_chars (by rw [← hkf]; exact k1)])
        have q1 : ¬ (9223372036854775807 < S.size + Q.size) := by omega
        clear hQ hkf k1
        go_wp2_with fail
        refine (HT _).out.mono ?_
        rintro e w2 ⟨rfl, hb2⟩
        have HB2 := hide (HB.out.trans (hb2.mono HB.out.size))
        clear hb2
        go_wp2_with fail
        go_roundw
        case rel => exact ⟨k + 1, S ++ Q, by omega, by go_num, rfl, hide (HNX.out _ (by rw [toA_append, HQL.out])), HB2⟩
        case measure => simp [intOf]; omega
      have s1 : (kf == 1) = false := beq_eq_false_iff_ne.2 k1
      by_cases k2 : kf = 2
      · have s2 : (kf == 2) = true := by rw [k2]; rfl
        have HTG : Hid (60 :: (f.2.name ++ (attrsW (escQ true) f.2.attrs ++ [62])) = tokG f) := hide (tokG_start (by rw [← hkf]; exact k2)).symm
        have q1 : ¬ (9223372036854775807 < S.size + 1) := by omega
        have q2 : ¬ (9223372036854775807 < S.size + 1 + X.size) := by omega
        clear hkf k1 k2
        go_wp2_with fail
        clear c1 c2 c3 c4
        go_loopw [3, 5] (fun sv i wr => ∃ (j : Nat) (R : ByteArray), j ≤ m ∧ i = .int .i64 j ∧ sv = .string R ∧ Hid (R.data.toList = S.data.toList ++ 60 :: (f.2.name ++ attrsW (escQ true) (f.2.attrs.take j))) ∧ Hid (Below w.heap.size w wr)) (fun _ i _ => m - (intOf i).toNat)
        case atStart => exact ⟨0, _, Nat.zero_le _, rfl, rfl, hide (by rw [toA_append, toA_append, HXL.out, List.take_zero]; simp [attrsW]), HB⟩
        case round =>
          obtain ⟨j, R, hj, rfl, rfl, HR, HB3⟩ := hrel
          obtain ⟨g2, hAt⟩ := HCELL.out wr HB3.out
          have hRl : (S.data.toList ++ 60 :: (f.2.name ++ attrsW (escQ true) (f.2.attrs.take j))).length ≤ 84600000 := by
            have h1 := attrsW_take_len HZ.out j
            rw [HML.out] at h1
            have h2 : f.2.name.length ≤ 300 := by rw [← HXL.out, toList_length]; exact zX
            rw [List.length_append, List.length_cons, List.length_append, toList_length]
            omega
          have zR : R.size ≤ 84600000 := str_size_le HR.out hRl
          by_cases hjl : j < m
          · obtain ⟨g, hg⟩ : ∃ g, f.2.attrs[j]? = some g := ⟨_, List.getElem?_eq_getElem (by have := HML.out; omega)⟩
            obtain ⟨b, hb, d1, d2⟩ := hAt.at j g hg
            obtain ⟨y1, y2⟩ := HZ.out g (List.mem_of_getElem? hg)
            obtain ⟨P, hP⟩ : ∃ P, P = str g.1 := ⟨_, rfl⟩
            obtain ⟨V, hV⟩ : ∃ V, V = str g.2 := ⟨_, rfl⟩
            have zP : P.size ≤ 300 := by rw [hP, str_size]; exact y1
            have zV : V.size ≤ 300 := by rw [hV, str_size]; exact y2
            rw [← hP] at d1
            rw [← hV] at d2
            rw [hb] at g2
            obtain ⟨Q, hQ⟩ : ∃ Q, Q = str (escQ true V.data.toList) := ⟨_, rfl⟩
            have zQ : Q.size ≤ 1800 := by
              rw [hQ, str_size]
              have := esc_len true V.data.toList
              rw [toList_length] at this; omega
            have HV := fun w2 => hide (refValue12_any V w2 (by omega))
            rw [← hQ] at HV
            have HAW : Hid (P.data.toList = g.1 ∧ Q.data.toList = escQ true g.2) := hide ⟨by rw [hP, str_toList], by rw [hQ, hV, str_toList, str_toList]⟩
            have HN2 : Hid (∀ z : ByteArray, z.data.toList = R.data.toList ++ attrW (escQ true) g → z.data.toList = S.data.toList ++ 60 :: (f.2.name ++ attrsW (escQ true) (f.2.attrs.take (j + 1)))) := hide fun z hz => by
              rw [hz, HR.out, attrsW_take hg]; simp
            have q3 : ¬ (9223372036854775807 < R.size + 1) := by omega
            have q4 : ¬ (9223372036854775807 < R.size + 1 + P.size) := by omega
            have q5 : ¬ (9223372036854775807 < R.size + 1 + P.size + 2) := by omega
            have q6 : ¬ (9223372036854775807 < R.size + 1 + P.size + 2 + Q.size) := by omega
            have q7 : ¬ (9223372036854775807 < R.size + 1 + P.size + 2 + Q.size + 1) := by omega
            have HKP : Hid (∀ w2 w3, Below w2.heap.size w2 w3 → Below wr.heap.size wr w2 → Below wr.heap.size wr w3 ∧ w3.cell? { block := (a.add (k * 4)).block, off := (a.add (k * 4)).off + 2 } = some (.slice (some b) m y) ∧ w3.cell? (b.add (j * 2)) = some (.string P) ∧ w3.cell? { block := (b.add (j * 2)).block, off := (b.add (j * 2)).off + 1 } = some (.string V)) := hide fun w2 w3 h3 h2 => by
              have hb := h2.trans (h3.mono h2.size)
              exact ⟨hb, (hb.cell (World.block_lt_of_cell? _ _ g2)).trans g2, (hb.cell (World.block_lt_of_cell? _ _ d1)).trans d1, (hb.cell (World.block_lt_of_cell? _ _ d2)).trans d2⟩
            have hcb := Below.refl wr.heap.size wr
            clear hg hP hV hQ hAt hb y1 y2 hRl HCELL
            go_wp2_with fail
            first | (go_region_held3 (fun w' => Below wr.heap.size wr w' ∧ w'.cell? { block := (a.add (k * 4)).block, off := (a.add (k * 4)).off + 2 } = some (.slice (some b) m y) ∧ w'.cell? (b.add (j * 2)) = some (.string P) ∧ w'.cell? { block := (b.add (j * 2)).block, off := (b.add (j * 2)).off + 1 } = some (.string V))
                (refine ⟨?_, ?_, ?_, ?_⟩ <;> first | (with_reducible assumption) | (with_reducible exact Below.drew (by assumption)) | (with_reducible exact (HKP.out _ _ (by with_reducible assumption) (by first | with_reducible assumption | with_reducible exact And.left (by assumption))).1) | (with_reducible exact (HKP.out _ _ (by with_reducible assumption) (by first | with_reducible assumption | with_reducible exact And.left (by assumption))).2.1) | (with_reducible exact (HKP.out _ _ (by with_reducible assumption) (by first | with_reducible assumption | with_reducible exact And.left (by assumption))).2.2.1) | (with_reducible exact (HKP.out _ _ (by with_reducible assumption) (by first | with_reducible assumption | with_reducible exact And.left (by assumption))).2.2.2) | go_keep)
                (first
                | (go_at_call 36; go_must (refine (HV _).out.mono ?_; rintro e w3 ⟨rfl, hb3⟩)))) | fail
            all_goals
              have hbc : Below wr.heap.size wr w3 := by first | with_reducible assumption | with_reducible exact And.left (by assumption)
              have HB4 := hide (HB3.out.trans (hbc.mono HB3.out.size))
              clear hbc
              go_wp2_with fail
              go_roundw
              case rel => exact ⟨j + 1, _, by omega, by go_num, rfl, hide (HN2.out _ (by simp only [toA_append, HAW.out.1, HAW.out.2]; unfold attrW; simp)), HB4⟩
              case measure => simp [intOf]; omega
          · have hjm : j = m := by omega
            have q3 : ¬ (9223372036854775807 < R.size + 1) := by omega
            have HR2 : Hid (R.data.toList ++ [62] = S.data.toList ++ tokG f) := hide (by
              rw [HR.out, ← HTG.out, List.take_of_length_le (by rw [HML.out]; omega)]; simp)
            clear hAt hRl
            go_wp2_with fail
            go_roundw
            case rel => exact ⟨k + 1, R ++ ⟨#[62]⟩, by omega, by go_num, rfl, hide (HNX.out _ (by rw [toA_append]; exact HR2.out)), HB3⟩
            case measure => simp [intOf]; omega
      have s2 : (kf == 2) = false := beq_eq_false_iff_ne.2 k2
      by_cases k3 : kf = 3
      · have s3 : (kf == 3) = true := by rw [k3]; rfl
        have HTG : Hid (60 :: 47 :: (f.2.name ++ [62]) = tokG f) := hide (tokG_end (by rw [← hkf]; exact k3)).symm
        have q1 : ¬ (9223372036854775807 < S.size + 2) := by omega
        have q2 : ¬ (9223372036854775807 < S.size + 2 + X.size) := by omega
        have q3 : ¬ (9223372036854775807 < S.size + 2 + X.size + 1) := by omega
        clear hkf k1 k2 k3
        go_wp2_with fail
        go_roundw
        case rel => exact ⟨k + 1, _, by omega, by go_num, rfl, hide (HNX.out _ (by rw [← HTG.out]; simp only [toA_append, HXL.out]; simp)), HB⟩
        case measure => simp [intOf]; omega
      have s3 : (kf == 3) = false := beq_eq_false_iff_ne.2 k3
      have HTG : Hid (tokG f = []) := hide (tokG_none (by rw [← hkf]; exact k1) (by rw [← hkf]; exact k2) (by rw [← hkf]; exact k3))
      clear hkf k1 k2 k3
      go_wp2_with fail
      go_roundw
      case rel => exact ⟨k + 1, S, by omega, by go_num, rfl, hide (HNX.out _ (by rw [HTG.out, List.append_nil])), HB⟩
      case measure => simp [intOf]; omega
    · have HL : Hid (S = str (writeG l)) := hide (by
        have h := HS.out
        rw [List.take_of_length_le (by have := HNL.out; omega)] at h
        rw [← h, str_of])
      go_wp2_with fail
      go_ret
      exact ⟨by rw [HL.out] <;> rfl, HB.out⟩
end Go.Proofs.YtmojckphfbcibaaGreatDoor
