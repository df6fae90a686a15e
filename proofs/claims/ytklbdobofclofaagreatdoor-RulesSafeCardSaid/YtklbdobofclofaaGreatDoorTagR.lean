/- WALKS of strings.byteStringReplacer's Replace at link's three signs. No statement is proved here. -/
import Derived.Test.YtklbdobofclofaaGreatDoorTagO
import Derived.Test.YtklbdobofclofaaGreatDoorTagP
import Derived.Test.YtklbdobofclofaaGreatDoorRepP
import Derived.Test.YtklbdobofclofaaGreatDoorShelf
import Derived.Laws.Cover3
namespace Go.Proofs.YtklbdobofclofaaGreatDoor
open Go.RowKit
set_option linter.unusedVariables false
set_option linter.unusedSimpArgs false
set_option maxRecDepth 100000
theorem made_zeroT (w : World) (n : Nat) (h : n ≤ 140737488355328) : ∃ w2, (Instr.makeSlice 49 (.int .i64 n) (.int .i64 n)).run Tryz.prog w = .ok (.slice (some ⟨w.heap.size, 0, none⟩) n n) w2 ∧ Arr w.heap.size w.heap.size (padL n []) w w2 := by
  obtain ⟨i0, hi, hz0, hz1, hz2⟩ := info_parts info_u8
  have hm := run_make (P := Tryz.prog) w 49 5 i0 _ Tryz.underlying49 hi hz0 .i64 .i64 n n (by omega) (Int.le_refl _) (by rw [hz2]; omega) (by omega)
  simp only [Int.toNat_natCast] at hm
  refine ⟨_, hm, fun j hj => ⟨?_, World.frozen?_alloc_at _ _ _ _ rfl⟩, (Below.refl _ w).alloc (Nat.le_refl _) _, Nat.le_refl _, by rw [World.size_alloc]; omega⟩
  have hj' : j < n := by rw [padL_length (Nat.zero_le _)] at hj; exact hj
  rw [World.cell?_alloc_at _ _ _ _ rfl, hz1, Nat.mul_one]
  have e0 : (padL n [])[j]'hj = 0 := by simp [padL]
  rw [e0]
  simp [madeCells, hj', Value.cells, Nat.mod_one]
theorem arr_putT {B g N : Nat} {o : List UInt8} {W0 w : World} (h : Arr B g (padL N o) W0 w) (hl : o.length < N) (c : UInt8) : Arr B g (padL N (o ++ [c])) W0 (w.setCell ⟨g, o.length, none⟩ (.int .u8 c.toNat)) := by
  have := h.set o.length (by rw [padL_length (Nat.le_of_lt hl)]; exact hl) c _ rfl
  rw [padL_set c hl] at this
  exact this
theorem size_u8T : (Tryz.prog.info? 5).map (·.size) = some 1 := by kernel_rfl
/-- copy of a row of no bytes, at a step of a region that draws -/
theorem step_copy_none {ops : Array Oper} {o : Oper} {a : Act} {w : World} {K : Act → World → Prop} {Q : Exit → Act → World → Prop} {E : Prop} (hgd : o.guard = none) (d sl : Operand)
    (ho : o.op = .call { callee := .builtin .copy, args := #[d, sl], argTypes := #[49, 49] })
    (g jn dl dc gx cx : Nat) (hd : a.eval d = .slice (some ⟨g, jn, none⟩) dl dc) (hs : a.eval sl = .slice (some ⟨gx, 0, none⟩) 0 cx)
    (h : K (a.put o.dst (goInt 0)) w) :
    if Region.wanted o (yielded ops a.tmps) = true then Oper.wp Tryz.prog o a w K Q else E := by
  have hw : Region.wanted o (yielded ops a.tmps) = true := by simp [Region.wanted, hgd]
  rw [if_pos hw]
  have hr := run_copy_cells (P := Tryz.prog) w 49 49 o.type 5 g jn dl dc ⟨gx, 0, none⟩ 0 cx [] Tryz.underlying49 size_u8T (by show 0 = Nat.min 0 dl; exact (Nat.zero_min dl).symm)
    (fun j v hv => by simp at hv)
    (fun j hj => absurd hj (Nat.not_lt_zero _))
    (fun j hj => absurd hj (Nat.not_lt_zero _))
    (fun v hv => by cases hv)
  unfold Oper.wp execOp
  simp only [ho, resolve, invoke, builtin, Sem.run_bind, Sem.run_pure, Result.andThen_ok, List.map_toArray, List.map_cons, List.map_nil, hd, hs, hr]
  exact h
set_option maxHeartbeats 2000000 in
theorem replaceT_any (s : ByteArray) (b R : Nat) (W w : World) (hr : TagAt W b R w) (hs : s.size ≤ 35184372088832) :
    Calls Tryz.prog 208 #[.pointer (some ⟨R, 0, none⟩), .string s] w fun e w' => e = .returned (.string (str (keepL s.data.toList))) ∧ Below w.heap.size w w' := by
  obtain ⟨G, v9, v10, v13, e9, e10, e13, ⟨B0, hR, hG, hne, hc, hf, h256, hG0, hG1, hG2, hfG⟩, hWb, l1, l2⟩ := hr
  have hlR : R < w.heap.size := World.block_lt_of_cell? w _ h256
  have hlG : G < w.heap.size := World.block_lt_of_cell? w _ hG0
  have hcl := hide hc
  clear hc hf hfG
  have htl := tag_le s.data.toList
  rw [toList_length] at htl
  by_cases hbig : 24 ≤ s.size
  · have t16 : decide ((24 : Int) ≤ (s.size : Int)) = true := decide_eq_true (by omega)
    have HBIG := hide hbig
    clear hbig
    go_enter Tryz.func208, Tryz.ntmps208
    go_wp2_with fail
    obtain ⟨q1, hq1⟩ : ∃ q, q = s.data.toList.count 13 := ⟨_, rfl⟩
    obtain ⟨q2, hq2⟩ : ∃ q, q = s.data.toList.count 10 := ⟨_, rfl⟩
    obtain ⟨q3, hq3⟩ : ∃ q, q = s.data.toList.count 9 := ⟨_, rfl⟩
    have HT : Hid (tagN s.data.toList = q1 + q2 + q3) := hide (by rw [hq1, hq2, hq3]; rfl)
    rw [HT.out] at htl
    have HQ1 := hide hq1
    have HQ2 := hide hq2
    have HQ3 := hide hq3
    clear hq1 hq2 hq3
    go_loopw [5, 6, 32] (fun n a k wr => ∃ (nn : Nat) (bb : Bool), nn ≤ s.size ∧ n = .int .i64 nn ∧ a = .bool bb ∧ Hid (bb = decide (nn ≠ s.size)) ∧ Hid (Below w.heap.size w wr) ∧ ((k = .int .i64 0 ∧ Hid (nn = s.size)) ∨ (k = .int .i64 1 ∧ Hid (nn + q1 = s.size)) ∨ (k = .int .i64 2 ∧ Hid (nn + (q1 + q2) = s.size)) ∨ (k = .int .i64 3 ∧ Hid (nn + (q1 + q2 + q3) = s.size)))) (fun _ _ k _ => 3 - (intOf k).toNat)
    case atStart => exact ⟨s.size, false, Nat.le_refl _, rfl, rfl, hide (by simp), hide (Below.refl _ _), .inl ⟨rfl, rfl⟩⟩
    case round =>
      obtain ⟨nn, bb, hnn, rfl, rfl, HB, HBW, ⟨rfl, HQ⟩ | ⟨rfl, HQ⟩ | ⟨rfl, HQ⟩ | ⟨rfl, HQ⟩⟩ := hrel
      · have hcn := Tryz.strings_Count_one s 13 wr
        have hB := HBW.out
        have k256 := (hB.cell (p := ⟨R, 256, none⟩) hlR).trans h256
        have kG0 := (hB.cell (p := ⟨G, 0, none⟩) hlG).trans hG0
        have kG1 := (hB.cell (p := ⟨G, 1, none⟩) hlG).trans hG1
        have kG2 := (hB.cell (p := ⟨G, 2, none⟩) hlG).trans hG2
        clear hB
        obtain ⟨g2, c2, ev⟩ := e13
        have h92 : wr.cell? ⟨R, ((⟨#[13]⟩ : ByteArray)[0]'(by decide)).toNat, none⟩ = some (.slice (some ⟨g2, 0, none⟩) 0 c2) := (HBW.out.cell (p := ⟨R, 13, none⟩) hlR).trans (by rw [hcl.out 13 (by decide), ← ev]; rfl)
        have hqn : q1 ≤ nn := by have := HQ.out; omega
        clear ev
        by_cases hz : q1 = 0
        · go_wp2_with (refine hcn.mono ?_; rintro e w1 ⟨rfl, hw1⟩; obtain rfl : wr = w1 := hw1.symm; rw [show Lib.countByte s.data.toList 13 = 0 from HQ1.out.symm.trans hz])
          go_round
          case rel => exact ⟨nn, bb, hnn, by go_num, rfl, HB, HBW, .inr (.inl ⟨rfl, hide (by have := HQ.out; omega)⟩)⟩
          case measure => simp [intOf]
        · go_wp2_with (refine hcn.mono ?_; rintro e w1 ⟨rfl, hw1⟩; obtain rfl : wr = w1 := hw1.symm; rw [show Lib.countByte s.data.toList 13 = q1 from HQ1.out.symm])
          go_region_calls
          all_goals
            go_wp2_with fail
            go_round
            case rel => exact ⟨nn - q1, true, by omega, congrArg (Value.int .i64) (by omega), rfl, hide (by simp; have := HQ.out; omega), hide HBW.out.drew, .inr (.inl ⟨rfl, hide (by have := HQ.out; omega)⟩)⟩
            case measure => simp [intOf]
      · have hcn := Tryz.strings_Count_one s 10 wr
        have hB := HBW.out
        have k256 := (hB.cell (p := ⟨R, 256, none⟩) hlR).trans h256
        have kG0 := (hB.cell (p := ⟨G, 0, none⟩) hlG).trans hG0
        have kG1 := (hB.cell (p := ⟨G, 1, none⟩) hlG).trans hG1
        have kG2 := (hB.cell (p := ⟨G, 2, none⟩) hlG).trans hG2
        clear hB
        obtain ⟨g2, c2, ev⟩ := e10
        have h92 : wr.cell? ⟨R, ((⟨#[10]⟩ : ByteArray)[0]'(by decide)).toNat, none⟩ = some (.slice (some ⟨g2, 0, none⟩) 0 c2) := (HBW.out.cell (p := ⟨R, 10, none⟩) hlR).trans (by rw [hcl.out 10 (by decide), ← ev]; rfl)
        have hqn : q2 ≤ nn := by have := HQ.out; omega
        clear ev
        by_cases hz : q2 = 0
        · go_wp2_with (refine hcn.mono ?_; rintro e w1 ⟨rfl, hw1⟩; obtain rfl : wr = w1 := hw1.symm; rw [show Lib.countByte s.data.toList 10 = 0 from HQ2.out.symm.trans hz])
          go_round
          case rel => exact ⟨nn, bb, hnn, by go_num, rfl, HB, HBW, .inr (.inr (.inl ⟨rfl, hide (by have := HQ.out; omega)⟩))⟩
          case measure => simp [intOf]
        · go_wp2_with (refine hcn.mono ?_; rintro e w1 ⟨rfl, hw1⟩; obtain rfl : wr = w1 := hw1.symm; rw [show Lib.countByte s.data.toList 10 = q2 from HQ2.out.symm])
          go_region_calls
          all_goals
            go_wp2_with fail
            go_round
            case rel => exact ⟨nn - q2, true, by omega, congrArg (Value.int .i64) (by omega), rfl, hide (by simp; have := HQ.out; omega), hide HBW.out.drew, .inr (.inr (.inl ⟨rfl, hide (by have := HQ.out; omega)⟩))⟩
            case measure => simp [intOf]
      · have hcn := Tryz.strings_Count_one s 9 wr
        have hB := HBW.out
        have k256 := (hB.cell (p := ⟨R, 256, none⟩) hlR).trans h256
        have kG0 := (hB.cell (p := ⟨G, 0, none⟩) hlG).trans hG0
        have kG1 := (hB.cell (p := ⟨G, 1, none⟩) hlG).trans hG1
        have kG2 := (hB.cell (p := ⟨G, 2, none⟩) hlG).trans hG2
        clear hB
        obtain ⟨g2, c2, ev⟩ := e9
        have h92 : wr.cell? ⟨R, ((⟨#[9]⟩ : ByteArray)[0]'(by decide)).toNat, none⟩ = some (.slice (some ⟨g2, 0, none⟩) 0 c2) := (HBW.out.cell (p := ⟨R, 9, none⟩) hlR).trans (by rw [hcl.out 9 (by decide), ← ev]; rfl)
        have hqn : q3 ≤ nn := by have := HQ.out; omega
        clear ev
        by_cases hz : q3 = 0
        · go_wp2_with (refine hcn.mono ?_; rintro e w1 ⟨rfl, hw1⟩; obtain rfl : wr = w1 := hw1.symm; rw [show Lib.countByte s.data.toList 9 = 0 from HQ3.out.symm.trans hz])
          go_round
          case rel => exact ⟨nn, bb, hnn, by go_num, rfl, HB, HBW, .inr (.inr (.inr ⟨rfl, hide (by have := HQ.out; omega)⟩))⟩
          case measure => simp [intOf]
        · go_wp2_with (refine hcn.mono ?_; rintro e w1 ⟨rfl, hw1⟩; obtain rfl : wr = w1 := hw1.symm; rw [show Lib.countByte s.data.toList 9 = q3 from HQ3.out.symm])
          go_region_calls
          all_goals
            go_wp2_with fail
            go_round
            case rel => exact ⟨nn - q3, true, by omega, congrArg (Value.int .i64) (by omega), rfl, hide (by simp; have := HQ.out; omega), hide HBW.out.drew, .inr (.inr (.inr ⟨rfl, hide (by have := HQ.out; omega)⟩))⟩
            case measure => simp [intOf]
      · have HQN : Hid (nn = (keepL s.data.toList).length) := hide (by have h1 := keep_len s.data.toList; rw [toList_length, HT.out] at h1; have := HQ.out; omega)
        cases bb with
        | false =>
          have hz : nn = s.size := by have := HB.out; simpa using this
          have HE : Hid (str (keepL s.data.toList) = s) := hide (by rw [keep_same _ (by have h1 := keep_len s.data.toList; rw [toList_length] at h1; have := HQN.out; omega), str_of])
          clear hz
          go_wp2_with fail
          go_ret
          exact ⟨ret_str HE.out.symm, HBW.out⟩
        | true =>
          obtain ⟨N, hN⟩ : ∃ N, N = nn := ⟨_, rfl⟩
          rw [← hN]
          have hNb : N ≤ 140737488355328 := by omega
          have HN : Hid (N = (keepL s.data.toList).length) := hide (by rw [hN]; exact HQN.out)
          clear hN
          obtain ⟨w2, hm, ha⟩ := made_zeroT wr N hNb
          have HA2 := hide ha
          clear ha
          go_wp2_with fail
          go_loopw [13, 14] (fun j i w3 => ∃ k jn : Nat, k ≤ s.size ∧ i = .int .i64 k ∧ j = .int .i64 jn ∧ Hid (jn = (keepL (s.data.toList.take k)).length) ∧ Hid (Arr wr.heap.size wr.heap.size (padL N (keepL (s.data.toList.take k))) wr w3)) (fun _ i _ => s.size - (intOf i).toNat)
          case atStart => exact ⟨0, 0, Nat.zero_le _, rfl, rfl, rfl, HA2⟩
          case round =>
            obtain ⟨k, jn, hk, rfl, rfl, HJ, HA⟩ := hrel
            by_cases hlt : k < s.size
            · have hb256 : (s[k].toNat : Int) < 256 := by have := (s[k]).toNat_lt; omega
              have HBW2 := hide (HBW.out.trans (HA.out.below.mono HBW.out.size))
              have hcell := (HBW2.out.cell (p := ⟨R, s[k].toNat, none⟩) hlR).trans (hcl.out s[k].toNat (s[k]).toNat_lt)
              have hes := keep_take s k hlt
              have hle := keep_part s (k + 1)
              rw [← HN.out, hes, List.length_append, ← HJ.out] at hle
              have hjl : jn ≤ N := by omega
              rcases tag_case s[k] with ⟨hx, hx2⟩ | ⟨hx, n9, n10, n13⟩
              · rw [if_pos hx] at hes
                obtain ⟨gx, cx, hcx⟩ : ∃ gx cx : Nat, wr.cell? ⟨R, s[k].toNat, none⟩ = some (.slice (some ⟨gx, 0, none⟩) 0 cx) := by
                  rw [hcell]
                  rcases hx2 with h1 | h1 | h1
                  · rw [h1]; obtain ⟨a, b, e⟩ := e9; exact ⟨a, b, by rw [if_pos rfl, e]⟩
                  · rw [h1]; obtain ⟨a, b, e⟩ := e10; exact ⟨a, b, by rw [if_neg (by decide), if_pos rfl, e]⟩
                  · rw [h1]; obtain ⟨a, b, e⟩ := e13; exact ⟨a, b, by rw [if_neg (by decide), if_neg (by decide), if_pos rfl, e]⟩
                have HJ2 : Hid (jn = (keepL (s.data.toList.take (k + 1))).length) := hide (by rw [hes, List.append_nil]; exact HJ.out)
                have HP : Hid (Arr _ _ (padL N (keepL (s.data.toList.take (k + 1)))) _ wr.drew) := hide (by rw [hes, List.append_nil]; exact HA.out.drew)
                clear hcell hx hx2 hle hes
                rcases Nat.lt_or_ge jn N with hjN | hjN
                · have hnN : ¬ N = jn := by omega
                  go_wp2_with fail
                  go_region_law (refine step_copy_none rfl _ _ rfl _ jn _ _ gx cx rfl rfl ?_)
                  all_goals
                    try go_wp2_with fail
                    exact ⟨⟨k + 1, jn, by omega, by go_num, by go_num, HJ2, HP⟩, by simp [intOf]; omega⟩
                · obtain rfl : jn = N := by omega
                  go_wp2_with fail
                  go_region_law (refine step_copy_none rfl _ _ rfl _ _ _ _ gx cx rfl rfl ?_)
                  all_goals
                    try go_wp2_with fail
                    exact ⟨⟨k + 1, jn, by omega, by go_num, by go_num, HJ2, HP⟩, by simp [intOf]; omega⟩
              · rw [if_neg (by rw [hx]; decide)] at hes hle
                have hj1 : jn + 1 ≤ N := hle
                have hc1 : wr.cell? ⟨R, s[k].toNat, none⟩ = some (.slice none 0 0) := by
                  rw [hcell, if_neg n9, if_neg n10, if_neg n13]; rfl
                have hjl2 : (keepL (s.data.toList.take k)).length ≤ N := by rw [← HJ.out]; exact hjl
                obtain ⟨vj, kj⟩ : ∃ v, wr.cell? ⟨_, jn, none⟩ = some v := ⟨_, HA.out.cell jn (by rw [padL_length hjl2]; omega)⟩
                have zj := HA.out.free jn (by rw [padL_length hjl2]; omega)
                have hp := arr_putT HA.out (by rw [← HJ.out]; omega) s[k]
                have hjn : jn + 1 = (keepL (s.data.toList.take (k + 1))).length := by rw [hes, List.length_append, ← HJ.out]; rfl
                rw [← HJ.out, ← hes] at hp
                have HP := hide hp
                have HJ2 := hide hjn
                clear hcell hx n9 n10 n13 hle hp hjn hes hjl2
                go_wp2_with fail
                go_round
                case rel => exact ⟨k + 1, jn + 1, by omega, by go_num, by go_num, HJ2, HP⟩
                case measure => simp [intOf]; omega
            · have hk2 : k = s.size := by omega
              have hes : keepL (s.data.toList.take k) = keepL s.data.toList := by rw [List.take_of_length_le (by rw [toList_length]; omega)]
              have ha := HA.out
              rw [hes, HN.out, padL_full] at ha
              have hcv := ha.convert N
              rw [← HN.out] at hcv
              have HBW2 := hide (HBW.out.trans (HA.out.below.mono HBW.out.size))
              clear ha hes
              go_wp2_with fail
              go_ret
              exact ⟨rfl, HBW2.out⟩
  · have t16 : decide ((24 : Int) ≤ (s.size : Int)) = false := decide_eq_false (by omega)
    have HBIG := hide hbig
    clear hbig
    go_enter Tryz.func208, Tryz.ntmps208
    go_wp2_with fail
    go_loopw [5, 6, 10] (fun n a i wr => ∃ (k q : Nat) (bb : Bool), k ≤ s.size ∧ i = .int .i64 k ∧ q ≤ k ∧ n = .int .i64 (s.size - q : Nat) ∧ a = .bool bb ∧ Hid (bb = decide (q ≠ 0)) ∧ Hid (q = tagN (s.data.toList.take k)) ∧ Hid (Below w.heap.size w wr)) (fun _ _ i _ => s.size - (intOf i).toNat)
    case atStart => exact ⟨0, 0, false, Nat.zero_le _, rfl, Nat.le_refl _, rfl, rfl, rfl, rfl, hide (Below.refl _ _)⟩
    case round =>
      obtain ⟨k, q, bb, hk, rfl, hqk, rfl, rfl, HB, HQ, HBW⟩ := hrel
      obtain ⟨nn, hnn⟩ : ∃ nn, nn = s.size - q := ⟨_, rfl⟩
      rw [← hnn]
      have hnn2 : nn + q = s.size := by omega
      have HNN := hide hnn2
      clear hnn
      by_cases hlt : k < s.size
      · have hq := tag_take s k hlt
        rw [← HQ.out] at hq
        have hcell := (HBW.out.cell (p := ⟨R, s[k].toNat, none⟩) hlR).trans (hcl.out s[k].toNat (s[k]).toNat_lt)
        have hb256 : (s[k].toNat : Int) < 256 := by have := (s[k]).toNat_lt; omega
        have hn1 : 1 ≤ nn := by omega
        have hnm : nn ≤ s.size := by omega
        clear hnn2
        rcases tag_case s[k] with ⟨hx, hx2⟩ | ⟨hx, n9, n10, n13⟩
        · rw [if_pos hx] at hq
          obtain ⟨gx, cx, hcx⟩ : ∃ gx cx : Nat, wr.cell? ⟨R, s[k].toNat, none⟩ = some (.slice (some ⟨gx, 0, none⟩) 0 cx) := by
            rw [hcell]
            rcases hx2 with h1 | h1 | h1
            · rw [h1]; obtain ⟨a, b, e⟩ := e9; exact ⟨a, b, by rw [if_pos rfl, e]⟩
            · rw [h1]; obtain ⟨a, b, e⟩ := e10; exact ⟨a, b, by rw [if_neg (by decide), if_pos rfl, e]⟩
            · rw [h1]; obtain ⟨a, b, e⟩ := e13; exact ⟨a, b, by rw [if_neg (by decide), if_neg (by decide), if_pos rfl, e]⟩
          have HN : Hid (q + 1 = tagN (s.data.toList.take (k + 1))) := hide hq.symm
          clear hq hcell hx hx2
          go_wp2_with fail
          go_round
          case rel => exact ⟨k + 1, q + 1, true, by omega, by go_num, by omega, congrArg (Value.int .i64) (by have := HNN.out; omega), rfl, hide (by simp), HN, HBW⟩
          case measure => simp [intOf]; omega
        · rw [if_neg (by rw [hx]; decide)] at hq
          have hc1 : wr.cell? ⟨R, s[k].toNat, none⟩ = some (.slice none 0 0) := by
            rw [hcell, if_neg n9, if_neg n10, if_neg n13]; rfl
          have HN : Hid (q = tagN (s.data.toList.take (k + 1))) := hide hq.symm
          clear hq hcell hx n9 n10 n13
          go_wp2_with fail
          go_round
          case rel => exact ⟨k + 1, q, bb, by omega, by go_num, by omega, congrArg (Value.int .i64) (by have := HNN.out; omega), rfl, HB, HN, HBW⟩
          case measure => simp [intOf]; omega
      · have HQT : Hid (q = tagN s.data.toList) := hide (by rw [HQ.out, List.take_of_length_le (by rw [toList_length]; omega)])
        have HQN : Hid (nn = (keepL s.data.toList).length) := hide (by have h1 := keep_len s.data.toList; rw [toList_length, ← HQT.out] at h1; omega)
        clear hnn2
        cases bb with
        | false =>
          have hz : q = 0 := by have := HB.out; simpa using this
          have HE : Hid (str (keepL s.data.toList) = s) := hide (by rw [keep_same _ (HQT.out.symm.trans hz), str_of])
          clear hz
          go_wp2_with fail
          go_ret
          exact ⟨ret_str HE.out.symm, HBW.out⟩
        | true =>
          obtain ⟨N, hN⟩ : ∃ N, N = nn := ⟨_, rfl⟩
          rw [← hN]
          have hNb : N ≤ 140737488355328 := by have := HNN.out; omega
          have HN : Hid (N = (keepL s.data.toList).length) := hide (by rw [hN]; exact HQN.out)
          clear hN
          obtain ⟨w2, hm, ha⟩ := made_zeroT wr N hNb
          have HA2 := hide ha
          clear ha
          go_wp2_with fail
          go_loopw [13, 14] (fun j i w3 => ∃ k jn : Nat, k ≤ s.size ∧ i = .int .i64 k ∧ j = .int .i64 jn ∧ Hid (jn = (keepL (s.data.toList.take k)).length) ∧ Hid (Arr wr.heap.size wr.heap.size (padL N (keepL (s.data.toList.take k))) wr w3)) (fun _ i _ => s.size - (intOf i).toNat)
          case atStart => exact ⟨0, 0, Nat.zero_le _, rfl, rfl, rfl, HA2⟩
          case round =>
            obtain ⟨k, jn, hk, rfl, rfl, HJ, HA⟩ := hrel
            by_cases hlt : k < s.size
            · have hb256 : (s[k].toNat : Int) < 256 := by have := (s[k]).toNat_lt; omega
              have HBW2 := hide (HBW.out.trans (HA.out.below.mono HBW.out.size))
              have hcell := (HBW2.out.cell (p := ⟨R, s[k].toNat, none⟩) hlR).trans (hcl.out s[k].toNat (s[k]).toNat_lt)
              have hes := keep_take s k hlt
              have hle := keep_part s (k + 1)
              rw [← HN.out, hes, List.length_append, ← HJ.out] at hle
              have hjl : jn ≤ N := by omega
              rcases tag_case s[k] with ⟨hx, hx2⟩ | ⟨hx, n9, n10, n13⟩
              · rw [if_pos hx] at hes
                obtain ⟨gx, cx, hcx⟩ : ∃ gx cx : Nat, wr.cell? ⟨R, s[k].toNat, none⟩ = some (.slice (some ⟨gx, 0, none⟩) 0 cx) := by
                  rw [hcell]
                  rcases hx2 with h1 | h1 | h1
                  · rw [h1]; obtain ⟨a, b, e⟩ := e9; exact ⟨a, b, by rw [if_pos rfl, e]⟩
                  · rw [h1]; obtain ⟨a, b, e⟩ := e10; exact ⟨a, b, by rw [if_neg (by decide), if_pos rfl, e]⟩
                  · rw [h1]; obtain ⟨a, b, e⟩ := e13; exact ⟨a, b, by rw [if_neg (by decide), if_neg (by decide), if_pos rfl, e]⟩
                have HJ2 : Hid (jn = (keepL (s.data.toList.take (k + 1))).length) := hide (by rw [hes, List.append_nil]; exact HJ.out)
                have HP : Hid (Arr _ _ (padL N (keepL (s.data.toList.take (k + 1)))) _ wr.drew) := hide (by rw [hes, List.append_nil]; exact HA.out.drew)
                clear hcell hx hx2 hle hes
                rcases Nat.lt_or_ge jn N with hjN | hjN
                · have hnN : ¬ N = jn := by omega
                  go_wp2_with fail
                  go_region_law (refine step_copy_none rfl _ _ rfl _ jn _ _ gx cx rfl rfl ?_)
                  all_goals
                    try go_wp2_with fail
                    exact ⟨⟨k + 1, jn, by omega, by go_num, by go_num, HJ2, HP⟩, by simp [intOf]; omega⟩
                · obtain rfl : jn = N := by omega
                  go_wp2_with fail
                  go_region_law (refine step_copy_none rfl _ _ rfl _ _ _ _ gx cx rfl rfl ?_)
                  all_goals
                    try go_wp2_with fail
                    exact ⟨⟨k + 1, jn, by omega, by go_num, by go_num, HJ2, HP⟩, by simp [intOf]; omega⟩
              · rw [if_neg (by rw [hx]; decide)] at hes hle
                have hj1 : jn + 1 ≤ N := hle
                have hc1 : wr.cell? ⟨R, s[k].toNat, none⟩ = some (.slice none 0 0) := by
                  rw [hcell, if_neg n9, if_neg n10, if_neg n13]; rfl
                have hjl2 : (keepL (s.data.toList.take k)).length ≤ N := by rw [← HJ.out]; exact hjl
                obtain ⟨vj, kj⟩ : ∃ v, wr.cell? ⟨_, jn, none⟩ = some v := ⟨_, HA.out.cell jn (by rw [padL_length hjl2]; omega)⟩
                have zj := HA.out.free jn (by rw [padL_length hjl2]; omega)
                have hp := arr_putT HA.out (by rw [← HJ.out]; omega) s[k]
                have hjn : jn + 1 = (keepL (s.data.toList.take (k + 1))).length := by rw [hes, List.length_append, ← HJ.out]; rfl
                rw [← HJ.out, ← hes] at hp
                have HP := hide hp
                have HJ2 := hide hjn
                clear hcell hx n9 n10 n13 hle hp hjn hes hjl2
                go_wp2_with fail
                go_round
                case rel => exact ⟨k + 1, jn + 1, by omega, by go_num, by go_num, HJ2, HP⟩
                case measure => simp [intOf]; omega
            · have hk2 : k = s.size := by omega
              have hes : keepL (s.data.toList.take k) = keepL s.data.toList := by rw [List.take_of_length_le (by rw [toList_length]; omega)]
              have ha := HA.out
              rw [hes, HN.out, padL_full] at ha
              have hcv := ha.convert N
              rw [← HN.out] at hcv
              have HBW2 := hide (HBW.out.trans (HA.out.below.mono HBW.out.size))
              clear ha hes
              go_wp2_with fail
              go_ret
              exact ⟨rfl, HBW2.out⟩
end Go.Proofs.YtklbdobofclofaaGreatDoor
