/- WALKS of strings.byteStringReplacer's Replace at quote's two signs. No statement is proved here. -/
import Derived.Test.YtcmmbceacjechaaGreatDoorBaseO
import Derived.Test.YtcmmbceacjechaaGreatDoorShelf
import Derived.Laws.Cover3
namespace Go.Proofs.YtcmmbceacjechaaGreatDoor
open Go.RowKit
set_option linter.unusedVariables false
set_option linter.unusedSimpArgs false
set_option maxRecDepth 100000
theorem made_zero (w : World) (n : Nat) (h : n ≤ 140737488355328) : ∃ w2, (Instr.makeSlice 67 (.int .i64 n) (.int .i64 n)).run Tryz.prog w = .ok (.slice (some ⟨w.heap.size, 0, none⟩) n n) w2 ∧ Arr w.heap.size w.heap.size (padL n []) w w2 := by
  obtain ⟨i0, hi, hz0, hz1, hz2⟩ := info_parts info_u8
  have hm := run_make (P := Tryz.prog) w 67 5 i0 _ Tryz.underlying67 hi hz0 .i64 .i64 n n (by omega) (Int.le_refl _) (by rw [hz2]; omega) (by omega)
  simp only [Int.toNat_natCast] at hm
  refine ⟨_, hm, fun j hj => ⟨?_, World.frozen?_alloc_at _ _ _ _ rfl⟩, (Below.refl _ w).alloc (Nat.le_refl _) _, Nat.le_refl _, by rw [World.size_alloc]; omega⟩
  have hj' : j < n := by rw [padL_length (Nat.zero_le _)] at hj; exact hj
  rw [World.cell?_alloc_at _ _ _ _ rfl, hz1, Nat.mul_one]
  have e0 : (padL n [])[j]'hj = 0 := by simp [padL]
  rw [e0]
  simp [madeCells, hj', Value.cells, Nat.mod_one]
theorem arr_put {B g N : Nat} {o : List UInt8} {W0 w : World} (h : Arr B g (padL N o) W0 w) (hl : o.length < N) (c : UInt8) : Arr B g (padL N (o ++ [c])) W0 (w.setCell ⟨g, o.length, none⟩ (.int .u8 c.toNat)) := by
  have := h.set o.length (by rw [padL_length (Nat.le_of_lt hl)]; exact hl) c _ rfl
  rw [padL_set c hl] at this
  exact this
theorem TwoAt.kept' {w wr : World} {g B : Nat} {x y : Int} (h : TwoAt w g x y B) (hb : Below w.heap.size w wr) (hg : g < w.heap.size) : TwoAt wr g x y B := h.kept hb
theorem size_u8 : (Tryz.prog.info? 5).map (·.size) = some 1 := by kernel_rfl
/-- copy of a row of two bytes, at a step of a region that draws -/
theorem step_copy_two {ops : Array Oper} {o : Oper} {a : Act} {w : World} {K : Act → World → Prop} {Q : Exit → Act → World → Prop} {E : Prop} (hgd : o.guard = none) (d sl : Operand)
    (ho : o.op = .call { callee := .builtin .copy, args := #[d, sl], argTypes := #[67, 67] })
    (g jn dl dc gx cx : Nat) (x y : Int) (hd : a.eval d = .slice (some ⟨g, jn, none⟩) dl dc) (hs : a.eval sl = .slice (some ⟨gx, 0, none⟩) 2 cx) (h2 : 2 ≤ dl)
    (s0 : w.cell? ⟨gx, 0, none⟩ = some (.int .u8 x)) (s1 : w.cell? ⟨gx, 1, none⟩ = some (.int .u8 y)) (t0 : (w.cell? ⟨g, jn, none⟩).isSome = true) (t1 : (w.cell? ⟨g, jn + 1, none⟩).isSome = true)
    (f0 : w.frozen? ⟨g, jn, none⟩ = false) (f1 : w.frozen? ⟨g, jn + 1, none⟩ = false)
    (h : K (a.put o.dst (goInt 2)) ((w.setCell ⟨g, jn, none⟩ (.int .u8 x)).setCell ⟨g, jn + 1, none⟩ (.int .u8 y))) :
    if Region.wanted o (yielded ops a.tmps) = true then Oper.wp Tryz.prog o a w K Q else E := by
  have hw : Region.wanted o (yielded ops a.tmps) = true := by simp [Region.wanted, hgd]
  rw [if_pos hw]
  have hr := run_copy_cells (P := Tryz.prog) w 67 67 o.type 5 g jn dl dc ⟨gx, 0, none⟩ 2 cx [.int .u8 x, .int .u8 y] Tryz.underlying67 size_u8 (by show 2 = Nat.min 2 dl; exact (Nat.min_eq_left h2).symm)
    (fun j v hv => by
      match j, hv with
      | 0, hv => rw [Addr.add_lit]; cases hv; exact s0
      | 1, hv => rw [Addr.add_lit]; cases hv; exact s1)
    (fun j hj => by
      match j, hj with
      | 0, _ => exact t0
      | 1, _ => exact t1)
    (fun j hj => by
      match j, hj with
      | 0, _ => exact f0
      | 1, _ => exact f1)
    (fun v hv => by
      rcases List.mem_cons.1 hv with rfl | hv
      · rfl
      · rcases List.mem_cons.1 hv with rfl | hv
        · rfl
        · cases hv)
  unfold Oper.wp execOp
  simp only [ho, resolve, invoke, builtin, Sem.run_bind, Sem.run_pure, Result.andThen_ok, List.map_toArray, List.map_cons, List.map_nil, hd, hs, hr]
  exact h
set_option maxHeartbeats 1600000 in
theorem replace_any (s : ByteArray) (b R : Nat) (W w : World) (hr : RepAt W b R w) (hs : s.size ≤ 35184372088832) :
    Calls Tryz.prog 305 #[.pointer (some ⟨R, 0, none⟩), .string s] w fun e w' => e = .returned (.string (str (escL s.data.toList))) ∧ Below w.heap.size w w' := by
  obtain ⟨G, g1, c1, g2, c2, ⟨B0, hR, hG, hne, hc, hf, h256, hG0, hG1, hfG⟩, t1, t2, hWb, l1, l2, l3, l4⟩ := hr
  have hlR : R < w.heap.size := World.block_lt_of_cell? w _ h256
  have hlG : G < w.heap.size := World.block_lt_of_cell? w _ hG0
  have hl1 : g1 < w.heap.size := World.block_lt_of_cell? w _ t1.1
  have hl2 : g2 < w.heap.size := World.block_lt_of_cell? w _ t2.1
  have hcl := hide hc
  have HT1 := hide t1
  have HT2 := hide t2
  clear hc hf hfG t1 t2
  by_cases hbig : 16 ≤ s.size
  · have t16 : decide ((16 : Int) ≤ (s.size : Int)) = true := decide_eq_true (by omega)
    have HBIG := hide hbig
    clear hbig
    go_enter Tryz.func305, Tryz.ntmps305
    go_wp2_with fail
    have hqb : cnB 92 s.data.toList + cnB 34 s.data.toList ≤ 35184372088832 := Nat.le_trans (qn_le s.data.toList) (by rw [toList_length]; exact hs)
    obtain ⟨q2, hq2⟩ : ∃ q, q = cnB 92 s.data.toList := ⟨_, rfl⟩
    obtain ⟨q3, hq3⟩ : ∃ q, q = cnB 34 s.data.toList := ⟨_, rfl⟩
    rw [← hq2, ← hq3] at hqb
    have HQ2 := hide hq2
    have HQ3 := hide hq3
    have HQN0 : Hid (q2 + q3 = qn s.data.toList) := hide (by rw [hq2, hq3]; rfl)
    clear hq2 hq3
    go_loopw [5, 6, 32] (fun n a k wr => ∃ (q : Nat) (bb : Bool), q ≤ 35184372088832 ∧ n = .int .i64 (s.size + q : Nat) ∧ a = .bool bb ∧ Hid (bb = decide (q ≠ 0)) ∧ Hid (Below w.heap.size w wr) ∧ ((k = .int .i64 0 ∧ q = 0) ∨ (k = .int .i64 1 ∧ q = q2) ∨ (k = .int .i64 2 ∧ q = q2 + q3))) (fun _ _ k _ => 2 - (intOf k).toNat)
    case atStart => exact ⟨0, false, by omega, rfl, rfl, rfl, hide (Below.refl _ _), .inl ⟨rfl, rfl⟩⟩
    case round =>
      obtain ⟨q, bb, hql, rfl, rfl, HB, HBW, ⟨rfl, hq⟩ | ⟨rfl, hq⟩ | ⟨rfl, hq⟩⟩ := hrel
      · have hcn := Tryz.strings_Count_one s 92 wr
        have hB := HBW.out
        have k256 := (hB.cell (p := ⟨R, 256, none⟩) hlR).trans h256
        have kG0 := (hB.cell (p := ⟨G, 0, none⟩) hlG).trans hG0
        have kG1 := (hB.cell (p := ⟨G, 1, none⟩) hlG).trans hG1
        clear hB
        have h92 : wr.cell? ⟨R, ((⟨#[92]⟩ : ByteArray)[0]'(by decide)).toNat, none⟩ = some (.slice (some ⟨g2, 0, none⟩) 2 c2) := (HBW.out.cell (p := ⟨R, 92, none⟩) hlR).trans (hcl.out 92 (by decide))
        by_cases hz : q2 = 0
        · go_wp2_with (refine hcn.mono ?_; rintro e w1 ⟨rfl, hw1⟩; obtain rfl : wr = w1 := hw1.symm; rw [show Lib.countByte s.data.toList 92 = 0 from HQ2.out.symm.trans hz])
          go_round
          case rel => exact ⟨q, bb, hql, by go_num, rfl, HB, HBW, .inr (.inl ⟨rfl, by omega⟩)⟩
          case measure => simp [intOf]
        · go_wp2_with (refine hcn.mono ?_; rintro e w1 ⟨rfl, hw1⟩; obtain rfl : wr = w1 := hw1.symm; rw [show Lib.countByte s.data.toList 92 = q2 from HQ2.out.symm])
          go_region_calls
          all_goals
            go_wp2_with fail
            go_round
            case rel => exact ⟨q + q2, true, by omega, by go_num, rfl, hide (by simp; omega), hide HBW.out.drew, .inr (.inl ⟨rfl, by omega⟩)⟩
            case measure => simp [intOf]
      · have hcn := Tryz.strings_Count_one s 34 wr
        have hB := HBW.out
        have k256 := (hB.cell (p := ⟨R, 256, none⟩) hlR).trans h256
        have kG0 := (hB.cell (p := ⟨G, 0, none⟩) hlG).trans hG0
        have kG1 := (hB.cell (p := ⟨G, 1, none⟩) hlG).trans hG1
        clear hB
        have h92 : wr.cell? ⟨R, ((⟨#[34]⟩ : ByteArray)[0]'(by decide)).toNat, none⟩ = some (.slice (some ⟨g1, 0, none⟩) 2 c1) := (HBW.out.cell (p := ⟨R, 34, none⟩) hlR).trans (hcl.out 34 (by decide))
        by_cases hz : q3 = 0
        · go_wp2_with (refine hcn.mono ?_; rintro e w1 ⟨rfl, hw1⟩; obtain rfl : wr = w1 := hw1.symm; rw [show Lib.countByte s.data.toList 34 = 0 from HQ3.out.symm.trans hz])
          go_round
          case rel => exact ⟨q, bb, hql, by go_num, rfl, HB, HBW, .inr (.inr ⟨rfl, by omega⟩)⟩
          case measure => simp [intOf]
        · go_wp2_with (refine hcn.mono ?_; rintro e w1 ⟨rfl, hw1⟩; obtain rfl : wr = w1 := hw1.symm; rw [show Lib.countByte s.data.toList 34 = q3 from HQ3.out.symm])
          go_region_calls
          all_goals
            go_wp2_with fail
            go_round
            case rel => exact ⟨q + q3, true, by omega, by go_num, rfl, hide (by simp; omega), hide HBW.out.drew, .inr (.inr ⟨rfl, by omega⟩)⟩
            case measure => simp [intOf]
      · have HQN : Hid (q = qn s.data.toList) := hide (by rw [hq]; exact HQN0.out)
        cases bb with
        | false =>
          have hz : q = 0 := by have := HB.out; simpa using this
          have HE : Hid (str (escL s.data.toList) = s) := hide (by rw [escL_same _ (HQN.out.symm.trans hz), str_of])
          clear hz
          go_wp2_with fail
          go_ret
          exact ⟨ret_str HE.out.symm, HBW.out⟩
        | true =>
          clear hq
          obtain ⟨N, hN⟩ : ∃ N, N = s.size + q := ⟨_, rfl⟩
          rw [← hN]
          have hNb : N ≤ 140737488355328 := by omega
          have HN : Hid (N = (escL s.data.toList).length) := hide (by rw [hN, escL_len, toList_length, HQN.out])
          clear hN
          obtain ⟨w2, hm, ha⟩ := made_zero wr N hNb
          have HA2 := hide ha
          clear ha
          go_wp2_with fail
          go_loopw [13, 14] (fun j i w3 => ∃ k jn : Nat, k ≤ s.size ∧ i = .int .i64 k ∧ j = .int .i64 jn ∧ Hid (jn = (escL (s.data.toList.take k)).length) ∧ Hid (Arr wr.heap.size wr.heap.size (padL N (escL (s.data.toList.take k))) wr w3)) (fun _ i _ => s.size - (intOf i).toNat)
          case atStart => exact ⟨0, 0, Nat.zero_le _, rfl, rfl, rfl, HA2⟩
          case round =>
            obtain ⟨k, jn, hk, rfl, rfl, HJ, HA⟩ := hrel
            by_cases hlt : k < s.size
            · have hb256 : (s[k].toNat : Int) < 256 := by have := (s[k]).toNat_lt; omega
              have HBW2 := hide (HBW.out.trans (HA.out.below.mono HBW.out.size))
              have hcell := (HBW2.out.cell (p := ⟨R, s[k].toNat, none⟩) hlR).trans (hcl.out s[k].toNat (s[k]).toNat_lt)
              have hes := escL_take s k hlt
              have hle := escL_part s (k + 1)
              rw [← HN.out, hes, List.length_append, ← HJ.out] at hle
              have hjl : (escL (s.data.toList.take k)).length ≤ N := by rw [← HJ.out]; omega
              by_cases hx : s[k] = 34 ∨ s[k] = 92
              · rw [show escC s[k] = [92, s[k]] from if_pos hx] at hes hle
                have hj2 : jn + 2 ≤ N := hle
                obtain ⟨gx, cx, hgx, hcx, htx⟩ : ∃ gx cx : Nat, gx < w.heap.size ∧ wr.cell? ⟨R, s[k].toNat, none⟩ = some (.slice (some ⟨gx, 0, none⟩) 2 cx) ∧ TwoAt w gx 92 (s[k].toNat : Int) 0 := by
                  rcases hx with h1 | h1
                  · exact ⟨g1, c1, hl1, by rw [hcell, h1]; rfl, by rw [h1]; exact HT1.out⟩
                  · exact ⟨g2, c2, hl2, by rw [hcell, h1]; rfl, by rw [h1]; exact HT2.out⟩
                have tw := htx.kept' HBW2.out hgx
                have hp := arr_put (arr_put HA.out (by rw [← HJ.out]; omega) 92) (by rw [List.length_append, ← HJ.out]; exact hj2) s[k]
                have hjn : jn + 2 = (escL (s.data.toList.take (k + 1))).length := by rw [hes, List.length_append, ← HJ.out]; rfl
                rw [List.append_assoc, List.length_append, ← HJ.out] at hp
                rw [show ([92] : List UInt8) ++ [s[k]] = [92, s[k]] from rfl, ← hes] at hp
                have e0 := HA.out.cell jn (by rw [padL_length hjl]; omega)
                have e1 := HA.out.cell (jn + 1) (by rw [padL_length hjl]; omega)
                have f0 := HA.out.free jn (by rw [padL_length hjl]; omega)
                have f1 := HA.out.free (jn + 1) (by rw [padL_length hjl]; omega)
                have T0 := hide (show (wr.drew.cell? ⟨_, jn, none⟩).isSome = true by rw [World.cell?_drew, e0]; rfl)
                have T1 := hide (show (wr.drew.cell? ⟨_, jn + 1, none⟩).isSome = true by rw [World.cell?_drew, e1]; rfl)
                have F0 := hide f0
                have F1 := hide f1
                have HP := hide hp.drew
                have HJ2 := hide hjn
                have TW := hide tw
                clear hcell hx hle htx tw e0 e1 f0 f1 hp hjn hjl hes
                go_wp2_with fail
                have hjN : jn ≤ N := by omega
                have hnN : ¬ N = jn := by omega
                go_region_law (refine step_copy_two rfl _ _ rfl _ jn _ _ gx cx 92 (s[k].toNat : Int) rfl rfl (by omega) TW.out.1 TW.out.2.1 T0.out T1.out F0.out F1.out ?_)
                all_goals
                  try go_wp2_with fail
                  exact ⟨⟨k + 1, jn + 2, by omega, by go_num, by go_num, HJ2, HP⟩, by simp [intOf]; omega⟩
              · have hx1 : ¬ s[k] = 34 := fun e => hx (.inl e)
                have hx2 : ¬ s[k] = 92 := fun e => hx (.inr e)
                rw [show escC s[k] = [s[k]] from if_neg hx] at hes hle
                have hj1 : jn + 1 ≤ N := hle
                have hc1 : wr.cell? ⟨R, s[k].toNat, none⟩ = some (.slice none 0 0) := by
                  have n1 : ¬ s[k].toNat = 34 := fun e => hx1 (UInt8.toNat_inj.1 e)
                  have n2 : ¬ s[k].toNat = 92 := fun e => hx2 (UInt8.toNat_inj.1 e)
                  rw [hcell, if_neg n1, if_neg n2]; rfl
                obtain ⟨vj, kj⟩ : ∃ v, wr.cell? ⟨_, jn, none⟩ = some v := ⟨_, HA.out.cell jn (by rw [padL_length hjl]; omega)⟩
                have zj := HA.out.free jn (by rw [padL_length hjl]; omega)
                have hp := arr_put HA.out (by rw [← HJ.out]; omega) s[k]
                have hjn : jn + 1 = (escL (s.data.toList.take (k + 1))).length := by rw [hes, List.length_append, ← HJ.out]; rfl
                rw [← HJ.out, ← hes] at hp
                have HP := hide hp
                have HJ2 := hide hjn
                clear hcell hx hx1 hx2 hle hp hjn hes hjl
                go_wp2_with fail
                go_round
                case rel => exact ⟨k + 1, jn + 1, by omega, by go_num, by go_num, HJ2, HP⟩
                case measure => simp [intOf]; omega
            · have hk2 : k = s.size := by omega
              have hes : escL (s.data.toList.take k) = escL s.data.toList := by rw [List.take_of_length_le (by rw [toList_length]; omega)]
              have ha := HA.out
              rw [hes, HN.out, padL_full] at ha
              have hcv := ha.convert N
              rw [← HN.out] at hcv
              have HBW2 := hide (HBW.out.trans (HA.out.below.mono HBW.out.size))
              clear ha hes
              go_wp2_with fail
              go_ret
              exact ⟨rfl, HBW2.out⟩
  · have t16 : decide ((16 : Int) ≤ (s.size : Int)) = false := decide_eq_false (by omega)
    have HBIG := hide hbig
    clear hbig
    go_enter Tryz.func305, Tryz.ntmps305
    go_wp2_with fail
    go_loopw [5, 6, 10] (fun n a i wr => ∃ (k q : Nat) (bb : Bool), k ≤ s.size ∧ i = .int .i64 k ∧ q ≤ k ∧ n = .int .i64 (s.size + q : Nat) ∧ a = .bool bb ∧ Hid (bb = decide (q ≠ 0)) ∧ Hid (q = qn (s.data.toList.take k)) ∧ Hid (Below w.heap.size w wr)) (fun _ _ i _ => s.size - (intOf i).toNat)
    case atStart => exact ⟨0, 0, false, Nat.zero_le _, rfl, Nat.le_refl _, rfl, rfl, rfl, rfl, hide (Below.refl _ _)⟩
    case round =>
      obtain ⟨k, q, bb, hk, rfl, hqk, rfl, rfl, HB, HQ, HBW⟩ := hrel
      by_cases hlt : k < s.size
      · have hq := qn_take s k hlt
        rw [← HQ.out] at hq
        have hcell := (HBW.out.cell (p := ⟨R, s[k].toNat, none⟩) hlR).trans (hcl.out s[k].toNat (s[k]).toNat_lt)
        have hb256 : (s[k].toNat : Int) < 256 := by have := (s[k]).toNat_lt; omega
        by_cases h1 : s[k] = 34
        · have hc1 : wr.cell? ⟨R, s[k].toNat, none⟩ = some (.slice (some ⟨g1, 0, none⟩) 2 c1) := by rw [hcell, h1]; rfl
          have HN : Hid (q + 1 = qn (s.data.toList.take (k + 1))) := hide (by rw [hq, h1]; rfl)
          clear hq hcell h1
          go_wp2_with fail
          go_round
          case rel => exact ⟨k + 1, q + 1, true, by omega, by go_num, by omega, by go_num, rfl, hide (by simp), HN, HBW⟩
          case measure => simp [intOf]; omega
        · by_cases h2 : s[k] = 92
          · have hc1 : wr.cell? ⟨R, s[k].toNat, none⟩ = some (.slice (some ⟨g2, 0, none⟩) 2 c2) := by rw [hcell, h2]; rfl
            have HN : Hid (q + 1 = qn (s.data.toList.take (k + 1))) := hide (by rw [hq, h2]; rfl)
            clear hq hcell h1 h2
            go_wp2_with fail
            go_round
            case rel => exact ⟨k + 1, q + 1, true, by omega, by go_num, by omega, by go_num, rfl, hide (by simp), HN, HBW⟩
            case measure => simp [intOf]; omega
          · have hc1 : wr.cell? ⟨R, s[k].toNat, none⟩ = some (.slice none 0 0) := by
              have n1 : ¬ s[k].toNat = 34 := fun e => h1 (UInt8.toNat_inj.1 e)
              have n2 : ¬ s[k].toNat = 92 := fun e => h2 (UInt8.toNat_inj.1 e)
              rw [hcell, if_neg n1, if_neg n2]; rfl
            have HN : Hid (q = qn (s.data.toList.take (k + 1))) := hide (by rw [hq, escC, if_neg (fun e => e.elim h1 h2)]; simp)
            clear hq hcell h1 h2
            go_wp2_with fail
            go_round
            case rel => exact ⟨k + 1, q, bb, by omega, by go_num, by omega, rfl, rfl, HB, HN, HBW⟩
            case measure => simp [intOf]; omega
      · have HQN : Hid (q = qn s.data.toList) := hide (by rw [HQ.out, List.take_of_length_le (by rw [toList_length]; omega)])
        cases bb with
        | false =>
          have hz : q = 0 := by have := HB.out; simpa using this
          have HE : Hid (str (escL s.data.toList) = s) := hide (by rw [escL_same _ (HQN.out.symm.trans hz), str_of])
          clear hz
          go_wp2_with fail
          go_ret
          exact ⟨ret_str HE.out.symm, HBW.out⟩
        | true =>
          obtain ⟨N, hN⟩ : ∃ N, N = s.size + q := ⟨_, rfl⟩
          rw [← hN]
          have hNb : N ≤ 140737488355328 := by omega
          have HN : Hid (N = (escL s.data.toList).length) := hide (by rw [hN, escL_len, toList_length, HQN.out])
          clear hN
          obtain ⟨w2, hm, ha⟩ := made_zero wr N hNb
          have HA2 := hide ha
          clear ha
          go_wp2_with fail
          go_loopw [13, 14] (fun j i w3 => ∃ k jn : Nat, k ≤ s.size ∧ i = .int .i64 k ∧ j = .int .i64 jn ∧ Hid (jn = (escL (s.data.toList.take k)).length) ∧ Hid (Arr wr.heap.size wr.heap.size (padL N (escL (s.data.toList.take k))) wr w3)) (fun _ i _ => s.size - (intOf i).toNat)
          case atStart => exact ⟨0, 0, Nat.zero_le _, rfl, rfl, rfl, HA2⟩
          case round =>
            obtain ⟨k, jn, hk, rfl, rfl, HJ, HA⟩ := hrel
            by_cases hlt : k < s.size
            · have hb256 : (s[k].toNat : Int) < 256 := by have := (s[k]).toNat_lt; omega
              have HBW2 := hide (HBW.out.trans (HA.out.below.mono HBW.out.size))
              have hcell := (HBW2.out.cell (p := ⟨R, s[k].toNat, none⟩) hlR).trans (hcl.out s[k].toNat (s[k]).toNat_lt)
              have hes := escL_take s k hlt
              have hle := escL_part s (k + 1)
              rw [← HN.out, hes, List.length_append, ← HJ.out] at hle
              have hjl : (escL (s.data.toList.take k)).length ≤ N := by rw [← HJ.out]; omega
              by_cases hx : s[k] = 34 ∨ s[k] = 92
              · rw [show escC s[k] = [92, s[k]] from if_pos hx] at hes hle
                have hj2 : jn + 2 ≤ N := hle
                obtain ⟨gx, cx, hgx, hcx, htx⟩ : ∃ gx cx : Nat, gx < w.heap.size ∧ wr.cell? ⟨R, s[k].toNat, none⟩ = some (.slice (some ⟨gx, 0, none⟩) 2 cx) ∧ TwoAt w gx 92 (s[k].toNat : Int) 0 := by
                  rcases hx with h1 | h1
                  · exact ⟨g1, c1, hl1, by rw [hcell, h1]; rfl, by rw [h1]; exact HT1.out⟩
                  · exact ⟨g2, c2, hl2, by rw [hcell, h1]; rfl, by rw [h1]; exact HT2.out⟩
                have tw := htx.kept' HBW2.out hgx
                have hp := arr_put (arr_put HA.out (by rw [← HJ.out]; omega) 92) (by rw [List.length_append, ← HJ.out]; exact hj2) s[k]
                have hjn : jn + 2 = (escL (s.data.toList.take (k + 1))).length := by rw [hes, List.length_append, ← HJ.out]; rfl
                rw [List.append_assoc, List.length_append, ← HJ.out] at hp
                rw [show ([92] : List UInt8) ++ [s[k]] = [92, s[k]] from rfl, ← hes] at hp
                have e0 := HA.out.cell jn (by rw [padL_length hjl]; omega)
                have e1 := HA.out.cell (jn + 1) (by rw [padL_length hjl]; omega)
                have f0 := HA.out.free jn (by rw [padL_length hjl]; omega)
                have f1 := HA.out.free (jn + 1) (by rw [padL_length hjl]; omega)
                have T0 := hide (show (wr.drew.cell? ⟨_, jn, none⟩).isSome = true by rw [World.cell?_drew, e0]; rfl)
                have T1 := hide (show (wr.drew.cell? ⟨_, jn + 1, none⟩).isSome = true by rw [World.cell?_drew, e1]; rfl)
                have F0 := hide f0
                have F1 := hide f1
                have HP := hide hp.drew
                have HJ2 := hide hjn
                have TW := hide tw
                clear hcell hx hle htx tw e0 e1 f0 f1 hp hjn hjl hes
                go_wp2_with fail
                have hjN : jn ≤ N := by omega
                have hnN : ¬ N = jn := by omega
                go_region_law (refine step_copy_two rfl _ _ rfl _ jn _ _ gx cx 92 (s[k].toNat : Int) rfl rfl (by omega) TW.out.1 TW.out.2.1 T0.out T1.out F0.out F1.out ?_)
                all_goals
                  try go_wp2_with fail
                  exact ⟨⟨k + 1, jn + 2, by omega, by go_num, by go_num, HJ2, HP⟩, by simp [intOf]; omega⟩
              · have hx1 : ¬ s[k] = 34 := fun e => hx (.inl e)
                have hx2 : ¬ s[k] = 92 := fun e => hx (.inr e)
                rw [show escC s[k] = [s[k]] from if_neg hx] at hes hle
                have hj1 : jn + 1 ≤ N := hle
                have hc1 : wr.cell? ⟨R, s[k].toNat, none⟩ = some (.slice none 0 0) := by
                  have n1 : ¬ s[k].toNat = 34 := fun e => hx1 (UInt8.toNat_inj.1 e)
                  have n2 : ¬ s[k].toNat = 92 := fun e => hx2 (UInt8.toNat_inj.1 e)
                  rw [hcell, if_neg n1, if_neg n2]; rfl
                obtain ⟨vj, kj⟩ : ∃ v, wr.cell? ⟨_, jn, none⟩ = some v := ⟨_, HA.out.cell jn (by rw [padL_length hjl]; omega)⟩
                have zj := HA.out.free jn (by rw [padL_length hjl]; omega)
                have hp := arr_put HA.out (by rw [← HJ.out]; omega) s[k]
                have hjn : jn + 1 = (escL (s.data.toList.take (k + 1))).length := by rw [hes, List.length_append, ← HJ.out]; rfl
                rw [← HJ.out, ← hes] at hp
                have HP := hide hp
                have HJ2 := hide hjn
                clear hcell hx hx1 hx2 hle hp hjn hes hjl
                go_wp2_with fail
                go_round
                case rel => exact ⟨k + 1, jn + 1, by omega, by go_num, by go_num, HJ2, HP⟩
                case measure => simp [intOf]; omega
            · have hk2 : k = s.size := by omega
              have hes : escL (s.data.toList.take k) = escL s.data.toList := by rw [List.take_of_length_le (by rw [toList_length]; omega)]
              have ha := HA.out
              rw [hes, HN.out, padL_full] at ha
              have hcv := ha.convert N
              rw [← HN.out] at hcv
              have HBW2 := hide (HBW.out.trans (HA.out.below.mono HBW.out.size))
              clear ha hes
              go_wp2_with fail
              go_ret
              exact ⟨rfl, HBW2.out⟩
end Go.Proofs.YtcmmbceacjechaaGreatDoor
