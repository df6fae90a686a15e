import Derived.Test.YtiejmkjpgjbodaaGreatDoorBaseP
import Derived.Test.YtiejmkjpgjbodaaGreatDoorEntX
import Derived.Test.YtiejmkjpgjbodaaGreatDoorBldK
namespace Go.Proofs.YtiejmkjpgjbodaaGreatDoor
open Go.RowKit
set_option linter.unusedVariables false
set_option linter.unusedSimpArgs false
set_option maxRecDepth 100000
theorem alloc_new_block (w : World) (o : Obj) : (w.alloc o).heap[w.heap.size]? = some o := by show (w.heap.push _)[w.heap.size]? = _; exact Array.getElem?_push_size
theorem toA_append (a b : ByteArray) : (a ++ b).data.toList = a.data.toList ++ b.data.toList := by
  simp
theorem attrsW_take {A : List AtL} {k : Nat} {f : AtL} (h : A[k]? = some f) : attrsW (escQ true) (A.take (k + 1)) = attrsW (escQ true) (A.take k) ++ attrW (escQ true) f := by
  unfold attrsW
  rw [List.take_add_one, h, List.flatMap_append]; simp
theorem writeG_take {A : List TokG} {k : Nat} {f : TokG} (h : A[k]? = some f) : writeG (A.take (k + 1)) = writeG (A.take k) ++ tokG f := by
  unfold writeG
  rw [List.take_add_one, h, List.flatMap_append]; simp
theorem wattrsW_take_len {A : List AtL} (h : ∀ a ∈ A, a.1.length ≤ 100000 ∧ a.2.length ≤ 100000) (k : Nat) : (attrsW (escQ true) (A.take k)).length ≤ 700004 * A.length := by
  have h1 := wattrsW_len (A := A.take k) (fun a ha => h a (List.mem_of_mem_take ha))
  have h2 : (A.take k).length ≤ A.length := by rw [List.length_take]; exact Nat.min_le_right _ _
  exact Nat.le_trans h1 (Nat.mul_le_mul_left _ h2)
set_option maxHeartbeats 8000000 in
theorem writeStart_any (b : Nat) (x : List UInt8) (K : Int) (N T : List UInt8) (A : List AtL) (d : Option Addr) (y : Nat) (W0 w : World) (h : Bld W0.heap.size b x W0 w) (ha : AttrsIn W0 (.slice d A.length y) A)
    (hN : N.length ≤ 100000) (hA : A.length ≤ 40) (hf : ∀ a ∈ A, a.1.length ≤ 100000 ∧ a.2.length ≤ 100000) (hE : EnvX W0) (hx : x.length ≤ 1099511627776) :
    Calls Tryz.prog 165 #[.pointer (some ⟨b, 0, none⟩), .agg #[.int .i64 K, .string (str N), .slice d A.length y, .string (str T)]] w fun e w' => e = .returned (.tuple #[]) ∧ Bld W0.heap.size b (x ++ 60 :: (N ++ (attrsW (escQ true) A ++ [62]))) W0 w' := by
  obtain ⟨n, hn⟩ : ∃ n, A.length = n := ⟨_, rfl⟩
  obtain ⟨X, hX⟩ : ∃ X, X = str N := ⟨_, rfl⟩
  obtain ⟨Y, hY⟩ : ∃ Y, Y = str T := ⟨_, rfl⟩
  have zX : X.size ≤ 100000 := by rw [hX, str_size]; exact hN
  have HXL : Hid (X.data.toList = N) := hide (by rw [hX, str_toList])
  rw [← hX, ← hY]
  have HA := hide ha
  have HF := hide hf
  have HE := hide hE
  have HXZ := hide hx
  have HNL := hide hn
  have HAL := hide hA
  have hn40 : n ≤ 40 := by omega
  rw [hn] at HA ⊢
  have hbx := h.kept (below_one' w (.cells #[.int .i64 K, .string X, .slice d n y, .string Y] 51))
  have HB := hide hbx
  have HBX := hide (alloc_new_block w (.cells #[.int .i64 K, .string X, .slice d n y, .string Y] 51))
  clear ha hf hE hx hn h hbx hX hY hA
  go_enter Tryz.func165, Tryz.ntmps165
  go_wp2_with fail
  refine (writeStringK_any _ _ x _ W0 _ HB.out (by rw [ByteArray.size_append]; have := HXZ.out; show _ + (1 + _) ≤ _; omega)).mono ?_
  rintro e w1 ⟨rfl, hb1, hk1⟩
  have HB1 := hide hb1
  have hc1 := hk1 _ _ _ _ HBX.out (by decide) (by decide)
  have k2 : w1.cell? ⟨w.heap.size, 2, none⟩ = some (.slice d n y) := by rw [Lib.cell_of_heap hc1]; rfl
  clear hb1 hk1 hc1
  go_wp2_with fail
  go_loopw [14] (fun i wr => ∃ k : Nat, k ≤ n ∧ i = .int .i64 k ∧ Hid (Bld W0.heap.size b (x ++ 60 :: (N ++ attrsW (escQ true) (A.take k))) W0 wr)) (fun i _ => n - (intOf i).toNat)
  case atStart => exact ⟨0, Nat.zero_le _, rfl, hide (by
    have h0 := HB1.out
    rw [toA_append, HXL.out] at h0
    rw [List.take_zero]
    simpa [attrsW] using h0)⟩
  case round =>
    obtain ⟨k, hk, rfl, HR⟩ := hrel
    by_cases hlt : k < n
    · obtain ⟨f, hf⟩ : ∃ f, A[k]? = some f := ⟨_, List.getElem?_eq_getElem (by have := HNL.out; omega)⟩
      obtain ⟨a, ha, hc1, hc2⟩ := (HA.out.kept HR.out.2.1).at k f hf
      subst ha
      obtain ⟨z1, z2⟩ := HF.out f (List.mem_of_getElem? hf)
      obtain ⟨P, hP⟩ : ∃ P, P = str f.1 := ⟨_, rfl⟩
      obtain ⟨V, hV⟩ : ∃ V, V = str f.2 := ⟨_, rfl⟩
      have zP : P.size ≤ 100000 := by rw [hP, str_size]; exact z1
      have zV : V.size ≤ 100000 := by rw [hV, str_size]; exact z2
      rw [← hP] at hc1
      rw [← hV] at hc2
      have hEV := fun w2 h => entValue_any V w2 (by omega) h
      obtain ⟨Q, hQ⟩ : ∃ Q, Q = str (escQ true V.data.toList) := ⟨_, rfl⟩
      have zQ : Q.size ≤ 600000 := by
        rw [hQ, str_size]
        have := esc_len true V.data.toList
        rw [toList_length] at this; omega
      rw [← hQ] at hEV
      have HEV := hide hEV
      have HEW : Hid (∀ w2, Below W0.heap.size W0 w2 → EnvX w2) := hide fun w2 h => HE.out.kept h
      have hxl : (x ++ 60 :: (N ++ attrsW (escQ true) (A.take k))).length ≤ 1099611727776 := by
        have := wattrsW_take_len HF.out k
        have := HXZ.out
        have := HAL.out
        rw [List.length_append, List.length_cons, List.length_append]; omega
      have HXX := hide hxl
      have HNX : Hid (∀ z : ByteArray, z.data.toList = attrW (escQ true) f → x ++ 60 :: (N ++ attrsW (escQ true) (A.take k)) ++ z.data.toList = x ++ 60 :: (N ++ attrsW (escQ true) (A.take (k + 1)))) := hide fun z hz => by
        rw [hz, attrsW_take hf]; simp
      have HAW : Hid (P.data.toList = f.1 ∧ Q.data.toList = escQ true f.2) := hide ⟨by rw [hP, str_toList], by rw [hQ, hV, str_toList, str_toList]⟩
      have q1 : ¬ (9223372036854775807 < 1 + P.size) := by omega
      have q2 : ¬ (9223372036854775807 < 1 + P.size + 2) := by omega
      have q3 : ¬ (9223372036854775807 < 1 + P.size + 2 + Q.size) := by omega
      have q4 : ¬ (9223372036854775807 < 1 + P.size + 2 + Q.size + 1) := by omega
      clear hf hP hV hQ hEV z1 z2 hxl
      have HBA : Hid (Bld W0.heap.size b _ W0 (wr.alloc (.cells #[.string P, .string V] 43)).drew) := hide (HR.out.kept ((below_one' wr (.cells #[.string P, .string V] 43)).trans (Below.refl _ _).drew))
      have HAL2 : Hid (∀ w3, Below (wr.alloc (.cells #[.string P, .string V] 43)).drew.heap.size (wr.alloc (.cells #[.string P, .string V] 43)).drew w3 → w3.heap[wr.heap.size]? = some (.cells #[.string P, .string V] 43)) := hide fun w3 h => by
        rw [h.block wr.heap.size (by show wr.heap.size < (wr.alloc _).heap.size; rw [World.size_alloc]; exact Nat.lt_succ_self _)]
        exact alloc_new_block wr _
      go_wp2_with fail
      go_region_with (first
        | (go_at_call 185; refine (HEV.out _ (HEW.out _ HBA.out.2.1)).mono ?_; rintro e w3 ⟨rfl, hb3⟩; have HB3 := hide (HBA.out.kept hb3); have k7 := cell_of_row w3 wr.heap.size 0 _ _ _ (HAL2.out _ hb3); have k8 := cell_of_row w3 wr.heap.size 1 _ _ _ (HAL2.out _ hb3); clear hb3)
        | (go_at_call 64; refine (writeString_any _ _ _ _ W0 _ HB3.out (by simp only [ByteArray.size_append]; have := HXX.out; show _ + (1 + _ + 2 + _ + 1) ≤ _; omega)).mono ?_; rintro e w4 ⟨rfl, hb4⟩; have HB4 := hide hb4; clear hb4)
        | fail)
      all_goals
        have HB5 : Hid (Bld W0.heap.size b (x ++ 60 :: (N ++ attrsW (escQ true) (A.take (k + 1)))) W0 w4) := hide (by
          rw [← HNX.out ((⟨#[32]⟩ : ByteArray) ++ P ++ ⟨#[61, 34]⟩ ++ Q ++ ⟨#[34]⟩) (by simp only [toA_append, HAW.out.1, HAW.out.2]; unfold attrW; simp)]
          exact HB4.out)
        go_wp2_with fail
        go_roundw
        case rel => exact ⟨k + 1, by omega, by go_num, HB5⟩
        case measure => simp [intOf]; omega
    · have hk2 : k = n := by omega
      subst hk2
      have HL : Hid (x ++ 60 :: (N ++ attrsW (escQ true) (A.take k)) ++ [62] = x ++ 60 :: (N ++ (attrsW (escQ true) A ++ [62]))) := hide (by
        rw [List.take_of_length_le (by have := HNL.out; omega)]; simp)
      have hxl : (x ++ 60 :: (N ++ attrsW (escQ true) (A.take k))).length ≤ 1099611727776 := by
        have := wattrsW_take_len HF.out k
        have := HXZ.out
        have := HAL.out
        rw [List.length_append, List.length_cons, List.length_append]; omega
      have HXX := hide hxl
      clear hxl
      go_wp2_with fail
      refine (writeString_any _ _ _ _ W0 _ HR.out (by have := HXX.out; show _ + 1 ≤ _; omega)).mono ?_
      rintro e w5 ⟨rfl, hb5⟩
      have HB5 := hide hb5
      clear hb5
      go_wp2_with fail
      go_end0
      exact ⟨rfl, by rw [← HL.out]; exact HB5.out⟩
set_option maxHeartbeats 8000000 in
theorem write_wide13 (v : Value) (l : List TokG) (w : World) (h : ToksIn w v l) (hl : l.length ≤ 1000) (hf : ∀ p ∈ l, wfitT p.2 = true) (hE : EnvX w) :
    Calls Tryz.prog 139 #[v] w fun e w' => e = .returned (.string (str (writeG l))) ∧ Below w.heap.size w w' := by
  obtain ⟨A, c, rfl⟩ := h.form
  obtain ⟨n, hn⟩ : ∃ n, l.length = n := ⟨_, rfl⟩
  have H := hide h
  have HF := hide hf
  have HE := hide hE
  have HNL := hide hn
  have HN0 := hide (Bld.new (w := w) (W0 := w) (B := w.heap.size) (Below.refl _ _) (Nat.le_refl _))
  rw [hn] at H hl ⊢
  clear h hf hE hn
  go_enter Tryz.func139, Tryz.ntmps139
  go_wp2_with fail
  go_loopw [8] (fun i wr => ∃ k : Nat, k ≤ n ∧ i = .int .i64 k ∧ Hid (Bld w.heap.size w.heap.size (writeG (l.take k)) w wr)) (fun i _ => n - (intOf i).toNat)
  case atStart => exact ⟨0, Nat.zero_le _, rfl, hide (by rw [List.take_zero]; exact HN0.out)⟩
  case round =>
    obtain ⟨k, hk, rfl, HR⟩ := hrel
    by_cases hlt : k < n
    · obtain ⟨f, hf⟩ : ∃ f, l[k]? = some f := ⟨_, List.getElem?_eq_getElem (by have := HNL.out; omega)⟩
      obtain ⟨a, d, y, ha, c1, c2, c3, c4, hA⟩ := (H.out.kept HR.out.2.1).at k f hf
      obtain ⟨a0, d0, y0, ha0, _, _, _, c40, hA0⟩ := H.out.at k f hf
      subst ha
      have hdy : AttrsIn w (.slice d f.2.attrs.length y) f.2.attrs := by
        injection ha0 with ha0
        subst ha0
        have e := (HR.out.2.1.cell (World.block_lt_of_cell? _ _ c40)).trans c40
        rw [c4] at e
        injection e with e
        rw [e]; exact hA0
      obtain ⟨z1, z2, z3, z4⟩ := wfitT_len (HF.out f (List.mem_of_getElem? hf))
      have hwl : (writeG (l.take k)).length ≤ 28400000000 := by
        have h1 := wwriteG_len (l := l.take k) (fun p hp => HF.out p (List.mem_of_mem_take hp))
        have h2 : (l.take k).length ≤ n := by rw [List.length_take, HNL.out]; exact Nat.min_le_right _ _
        omega
      have HNX : Hid (∀ z, z = tokG f → writeG (l.take k) ++ z = writeG (l.take (k + 1))) := hide fun z hz => by rw [hz, writeG_take hf]
      have HNO : Hid (tokG f = [] → writeG (l.take k) = writeG (l.take (k + 1))) := hide fun hz => by rw [writeG_take hf, hz, List.append_nil]
      have HEW : Hid (∀ w2, Below w.heap.size w w2 → EnvX w2) := hide fun w2 h => HE.out.kept h
      obtain ⟨X, hX⟩ : ∃ X, X = str f.2.name := ⟨_, rfl⟩
      obtain ⟨Y, hY⟩ : ∃ X, X = str f.2.text := ⟨_, rfl⟩
      have zX : X.size ≤ 100000 := by rw [hX, str_size]; exact z1
      have zY : Y.size ≤ 100000 := by rw [hY, str_size]; exact z2
      have HXL : Hid (X.data.toList = f.2.name) := hide (by rw [hX, str_toList])
      have HYL : Hid (Y.data.toList = f.2.text) := hide (by rw [hY, str_toList])
      obtain ⟨kf, hkf⟩ : ∃ z : Int, z = f.1 := ⟨_, rfl⟩
      rw [← hkf] at c1
      have HWS := hide (fun w2 (h2 : Bld w.heap.size w.heap.size (writeG (l.take k)) w w2) => writeStart_any w.heap.size (writeG (l.take k)) kf f.2.name f.2.text f.2.attrs d y w w2 h2 hdy z1 z3 z4 HE.out (by omega))
      rw [← hX, ← hY] at HWS
      rw [← hX] at c2
      rw [← hY] at c3
      obtain ⟨m, hm⟩ : ∃ m, f.2.attrs.length = m := ⟨_, rfl⟩
      rw [hm] at c4 HWS
      have HBA := hide (HR.out.kept (below_one' wr (.cells #[.int .i64 kf, .string X, .slice d m y, .string Y] 51)))
      have HWL := hide hwl
      clear hf ha0 c40 hA0 hA hdy z1 z2 z3 z4 hwl hX hY hm
      by_cases k1 : kf = 1
      · have s1 : (kf == 1) = true := by rw [k1]; rfl
        have HT := hide (entText_any Y (wr.alloc (.cells #[.int .i64 kf, .string X, .slice d m y, .string Y] 51)) (by omega))
        obtain ⟨Q, hQ⟩ : ∃ Q, Q = str (escQ false Y.data.toList) := ⟨_, rfl⟩
        have zQ : Q.size ≤ 600000 := by
          rw [hQ, str_size]
          have := esc_len false Y.data.toList
          rw [toList_length] at this; omega
        rw [← hQ] at HT
        have HQL : Hid (Q.data.toList = tokG f) := hide (by rw [hQ, str_toList, HYL.out, tokG_chars (by rw [← hkf]; exact k1)])
        clear hQ hkf
        subst k1
        go_wp2_with fail
        refine HT.out.mono ?_
        rintro e w2 ⟨rfl, hb2⟩
        have HB2 := hide (HBA.out.kept hb2)
        clear hb2
        go_wp2_with fail
        refine (writeString_any _ _ _ Q w _ HB2.out (by have := HWL.out; omega)).mono ?_
        rintro e w3 ⟨rfl, hb3⟩
        have HB3 := hide hb3
        clear hb3
        go_wp2_with fail
        go_roundw
        case rel => exact ⟨k + 1, by omega, by go_num, hide (by rw [← HNX.out _ HQL.out]; exact HB3.out)⟩
        case measure => simp [intOf]; omega
      have s1 : (kf == 1) = false := beq_eq_false_iff_ne.2 k1
      by_cases k2 : kf = 2
      · have s2 : (kf == 2) = true := by rw [k2]; rfl
        have HTG : Hid (60 :: (f.2.name ++ (attrsW (escQ true) f.2.attrs ++ [62])) = tokG f) := hide (tokG_start (by rw [← hkf]; exact k2)).symm
        clear hkf
        subst k2
        go_wp2_with fail
        refine (HWS.out _ HBA.out).mono ?_
        rintro e w3 ⟨rfl, hb3⟩
        have HB3 := hide hb3
        clear hb3
        go_wp2_with fail
        go_roundw
        case rel => exact ⟨k + 1, by omega, by go_num, hide (by rw [← HNX.out _ HTG.out]; exact HB3.out)⟩
        case measure => simp [intOf]; omega
      have s2 : (kf == 2) = false := beq_eq_false_iff_ne.2 k2
      by_cases k3 : kf = 3
      · have s3 : (kf == 3) = true := by rw [k3]; rfl
        have HTG : Hid (60 :: 47 :: (f.2.name ++ [62]) = tokG f) := hide (tokG_end (by rw [← hkf]; exact k3)).symm
        clear hkf
        subst k3
        go_wp2_with fail
        refine (writeString_any _ _ _ _ w _ HBA.out (by simp only [ByteArray.size_append]; have := HWL.out; show _ + (2 + _ + 1) ≤ _; omega)).mono ?_
        rintro e w3 ⟨rfl, hb3⟩
        have HB3 := hide hb3
        clear hb3
        go_wp2_with fail
        go_roundw
        case rel => exact ⟨k + 1, by omega, by go_num, hide (by
          have h := HB3.out
          rw [toA_append, toA_append, HXL.out] at h
          rw [← HNX.out _ HTG.out]
          simpa using h)⟩
        case measure => simp [intOf]; omega
      have s3 : (kf == 3) = false := beq_eq_false_iff_ne.2 k3
      have HTG := hide (HNO.out (tokG_none (by rw [← hkf]; exact k1) (by rw [← hkf]; exact k2) (by rw [← hkf]; exact k3)))
      clear hkf k1 k2 k3
      go_wp2_with fail
      go_roundw
      case rel => exact ⟨k + 1, by omega, by go_num, hide (by rw [← HTG.out]; exact HBA.out)⟩
      case measure => simp [intOf]; omega
    · have hk2 : k = n := by omega
      subst hk2
      have HL : Hid (writeG (l.take k) = writeG l) := hide (by rw [List.take_of_length_le (by have := HNL.out; omega)])
      rw [HL.out] at HR
      go_wp2_with fail
      refine HR.out.string.mono ?_
      rintro e w5 ⟨rfl, hb5⟩
      have HB5 := hide hb5
      clear hb5
      go_wp2_with fail
      go_ret
      exact ⟨rfl, HB5.out⟩
end Go.Proofs.YtiejmkjpgjbodaaGreatDoor
