/- WALK of a page's write. No statement is proved here. Own work of the verifier. -/
import Derived.Test.YtdeaofnhdbhknaaPnI
namespace Go.Proofs.Ytdeaofnhdbhknaa
open Go.RowKit
set_option linter.unusedVariables false
set_option linter.unusedSimpArgs false
set_option maxRecDepth 100000
/-- append(l, x) at a step of a region that draws its order -/
theorem step_lns {ops : Array Oper} {o : Oper} {a : Act} {w : World} {K : Act → World → Prop} {Q : Exit → Act → World → Prop} {E : Prop} (hgd : o.guard = none) (s x : Operand)
    (ho : o.op = .call { callee := .builtin .append, args := #[s, x], argTypes := #[40, 40] })
    (B : Nat) (v : Value) (l : List LnL) (hs : a.eval s = v) (f : LnL) (hb : LnRow B v l w) (hB : B ≤ w.heap.size) (ad : Addr)
    (hx : a.eval x = .slice (some ad) 1 1) (h0 : w.cell? (ad.add 0) = some (.int .i64 (f.1 : Int))) (h1 : w.cell? (ad.add 1) = some (.string (str f.2))) (hlen : l.length + 1 ≤ 4398046511104)
    (h : ∀ v' w', LnRow B v' (l ++ [f]) w' → w.grownBy w' v.ownBlock → (v'.ownBlock = v.ownBlock ∨ v'.ownBlock = some w.heap.size) → K (a.put o.dst v') w') :
    if Region.wanted o (yielded ops a.tmps) = true then Oper.wp Try.prog o a w K Q else E := by
  have hw : Region.wanted o (yielded ops a.tmps) = true := by simp [Region.wanted, hgd]
  rw [if_pos hw]
  obtain ⟨i0, hi, hz0, hz1, hz2⟩ := info_parts info_ln
  refine wp_append_own2 _ s x 40 ho B 42 i0 (.agg #[.int .i64 0, .string ByteArray.empty]) 2 24 Try.underlying40 hi hz0 hz1 hz2 rfl (by decide) v l.length (lnVals l) hs hb ad 1 1 [.int .i64 (f.1 : Int), .string (str f.2)] hx rfl ?_ ?_ (by unfold maxLen; omega) (by omega) hB ?_
  · intro j u hj
    match j, hj with
    | 0, hj => simp at hj; subst hj; exact h0
    | 1, hj => simp at hj; subst hj; exact h1
    | (j + 2), hj => simp at hj
  · intro u hu; simp at hu; rcases hu with rfl | rfl <;> rfl
  · intro v' w' ho' hg hor
    refine h v' w' ?_ hg hor
    unfold LnRow
    rw [lnVals_append, List.length_append]
    exact ho'
theorem grown_after {w w1 w2 : World} {r : Option Nat} (hb : Below w.heap.size w w1) (hg : w1.grownBy w2 r) : w.grownBy w2 r :=
  ⟨hg.os.trans hb.os, hg.tape.trans hb.tape, hg.output.trans hb.output, Nat.le_trans hb.size hg.size, fun k hk hr => (hg.block k (Nat.lt_of_lt_of_le hk hb.size) hr).trans (hb.block k hk)⟩
/-- what the whole holds at the most -/
def roomP (p : PgL) (n : Nat) : Prop := p.1.length + n ≤ 4000000000000 ∧ p.2.length + n ≤ 4000000000000
theorem hor_new {v v' : Value} {n m : Nat} (h : v'.ownBlock = v.ownBlock ∨ v'.ownBlock = some m) (hm : n ≤ m) : ∀ k, v'.ownBlock = some k → v.ownBlock = some k ∨ n ≤ k := fun k e => by
  rcases h with h | h
  · rw [h] at e; exact .inl e
  · rw [h] at e; injection e with e; exact .inr (by omega)
set_option maxHeartbeats 4000000 in
theorem write_any (B g j : Nat) (p : PgL) (ev lv : Value) (s : ByteArray) (w : World) (h : PgW B g j p ev lv w) (hs : s.size ≤ 70368744177664) (hr : roomP p s.size) :
    Calls Try.prog 39 #[.pointer (some ⟨g, j, none⟩), .string s] w fun e w' => e = .returned (.tuple #[]) ∧ ∃ ev' lv', PgW B g j (putS p s.data.toList) ev' lv' w' ∧ PgF g j ev lv ev' lv' w w' := by
  have H := hide h
  have HR := hide hr
  clear h hr
  go_enter Try.func39, Try.ntmps39
  go_wp2_with fail
  go_loopw [1] (fun t wr => ∃ (r : ByteArray) (q : PgL) (e1 l1 : Value), t = .string r ∧ r.size ≤ s.size ∧ Hid (PgW B g j q e1 l1 wr) ∧ Hid (PgF g j ev lv e1 l1 w wr) ∧ Hid (putS q r.data.toList = putS p s.data.toList) ∧ Hid (roomP q r.size)) (fun t _ => szL t)
  case atStart => exact ⟨s, p, ev, lv, rfl, Nat.le_refl _, H, hide (PgF.refl ..), hide rfl, HR⟩
  case round =>
    obtain ⟨r, q, e1, l1, rfl, hrs, HP, HF, HE, HRM⟩ := hrel
    have HC := hide (strCut_any r 10 wr (by omega))
    unfold cutV at HC
    have HCC := hide (cut_case 10 r.data.toList)
    obtain ⟨Ae, ce, rfl⟩ := HP.out.ln.form
    obtain ⟨Al, cl, rfl⟩ := HP.out.bt.form
    obtain ⟨X, hX⟩ : ∃ X, X = str (beforeC 10 r.data.toList) := ⟨_, rfl⟩
    obtain ⟨Y, hY⟩ : ∃ Y, Y = str (afterC 10 r.data.toList) := ⟨_, rfl⟩
    have HXL : Hid (X.data.toList = beforeC 10 r.data.toList) := hide (by rw [hX, str_toList])
    have HYL : Hid (Y.data.toList = afterC 10 r.data.toList) := hide (by rw [hY, str_toList])
    rw [← hX, ← hY] at HC
    clear hX hY
    have HSZ : Hid (X.size ≤ r.size) := hide (by
      have h1 : (beforeC 10 r.data.toList).length ≤ r.data.toList.length := (List.takeWhile_sublist _).length_le
      rw [toList_length, ← HXL.out, toList_length] at h1; exact h1)
    by_cases hm : (10 : UInt8) ∈ r.data.toList
    · rw [hasC_true hm] at HC
      obtain ⟨a, b, e0, hna, e2, e3⟩ : ∃ a b, r.data.toList = a ++ 10 :: b ∧ (10 : UInt8) ∉ a ∧ beforeC 10 r.data.toList = a ∧ afterC 10 r.data.toList = b := by
        rcases HCC.out with ⟨h, _⟩ | h
        · exact absurd hm h
        · exact h
      have HN : Hid (putS (q.1 ++ [(0, q.2 ++ X.data.toList)], []) Y.data.toList = putS p s.data.toList) := hide (by rw [HXL.out, HYL.out, e2, e3, ← putS_lf q a b hna, ← e0]; exact HE.out)
      have HLT : Hid (Y.size + X.size + 1 ≤ r.size) := hide (by
        have h1 := toList_length Y
        have h2 := toList_length X
        have h3 := toList_length r
        rw [HYL.out, e3] at h1
        rw [HXL.out, e2] at h2
        rw [e0] at h3; simp at h3; omega)
      clear hm e0 hna e2 e3 HCC HXL HYL HE
      go_wp2_with fail
      refine HC.out.mono ?_
      rintro e w1 ⟨rfl, hb1⟩
      have hp1 := HP.out.kept hb1
      have HB1 := hide hb1
      have HGL := hide HP.out.lt
      obtain ⟨c0, c1, f0, f1⟩ := hp1.cells
      have HP1 := hide hp1
      have HLN : Hid (q.2.length + X.size ≤ 140737488355328) := hide (by have h1 := HRM.out.2; have h2 := HSZ.out; omega)
      clear hb1 hp1 HC HP c0 f0
      go_wp2_with (
        refine wpList_text2 rfl _ _ rfl B (.slice Al q.2.length cl) q.2 rfl HP1.out.bt (Nat.le_trans HP1.out.Bg (Nat.le_of_lt HP1.out.lt)) X rfl HLN.out ?_
        intro l2 w2 ho2 hg2 hor2
        obtain ⟨hc2, hf2⟩ : w2.cell? ⟨g, j + 1, none⟩ = some (.slice Al q.2.length cl) ∧ w2.frozen? ⟨g, j + 1, none⟩ = false := by
          obtain ⟨cur, hc, _, hx⟩ := HP1.out.blk
          have hb := (hg2.block g (lt_of_block hc) (fun e => row_ne_page HP1.out.bt hc (by decide) e.symm)).trans hc
          exact ⟨(Lib.cell_of_heap hb _).trans hx, Lib.frozen_of_heap hb _⟩
        obtain ⟨L2, hL2⟩ : ∃ L, L = q.2 ++ X.data.toList := ⟨_, rfl⟩
        rw [← hL2] at ho2
        obtain ⟨A2, c2, rfl⟩ := ho2.form
        have HL2 := hide hL2
        have HS2 := hide (HP1.out.setLv ho2 hg2 (hor_new hor2 (Nat.le_refl _)))
        clear ho2 hg2 hor2 c1 f1 hL2)
      generalize (w2.setCell ⟨g, j + 1, none⟩ (.slice A2 L2.length c2)) = w3 at HS2 ⊢
      clear hc2 hf2
      rw [← HL2.out] at HN
      have HLL : Hid (L2.length = q.2.length + X.size) := hide (by rw [HL2.out, List.length_append, toList_length])
      have HP3 := hide HS2.out.1
      have HF3 := hide ((HF.out.trans (PgF.ofBelow _ _ HB1.out HGL.out)).trans HS2.out.2)
      have hcv : (convert 72 9 (.slice A2 L2.length c2)).run Try.prog w3.drew = .ok (.string (str L2)) w3.drew := ByRow.convert (w := w3.drew) HP3.out.bt
      obtain ⟨d0, d1, e0, e1⟩ := HP3.out.cells
      have d0d : w3.drew.cell? ⟨g, j, none⟩ = some (.slice Ae q.1.length ce) := d0
      have d1d : w3.drew.cell? ⟨g, j + 1, none⟩ = some (.slice A2 L2.length c2) := d1
      have hka : ∀ ob, PgW B g j (q.1, L2) (.slice Ae q.1.length ce) (.slice A2 L2.length c2) (w3.alloc ob).drew := fun ob => HP3.out.kept ((below_one w3 ob).drew)
      have d0a : ∀ ob, (w3.alloc ob).drew.cell? ⟨g, j, none⟩ = some (.slice Ae q.1.length ce) := fun ob => (hka ob).cells.1
      have d1a : ∀ ob, (w3.alloc ob).drew.cell? ⟨g, j + 1, none⟩ = some (.slice A2 L2.length c2) := fun ob => (hka ob).cells.2.1
      have HKA := hide hka
      have HQN : Hid (q.1.length + 1 ≤ 4398046511104) := hide (by have h1 := HRM.out.1; omega)
      obtain ⟨Z, hZ⟩ : ∃ Z, Z = str L2 := ⟨_, rfl⟩
      have HZ := hide hZ
      rw [← hZ] at hcv
      have HSB : Hid (B ≤ w3.heap.size) := hide (Nat.le_trans HP3.out.Bg (Nat.le_of_lt HP3.out.lt))
      have HQ1 := hide HP3.out.ln
      clear hZ hka HS2 HF HB1 HP1 HGL HLN e0 e1
      go_region_law (
        refine step_lns rfl _ _ rfl B (.slice Ae q.1.length ce) q.1 rfl (0, L2) (HKA.out _).ln (Nat.le_trans HSB.out (below_one w3 _).size) _ rfl (two_ln _ _ _ _).1 ((two_ln _ _ _ _).2.trans (by rw [HZ.out])) HQN.out ?_
        intro e2 w4 ho4 hg4 hor4
        obtain ⟨hc4, hblk4⟩ : w4.cell? ⟨g, j, none⟩ = some (.slice Ae q.1.length ce) ∧ w4.frozen? ⟨g, j, none⟩ = false := by
          obtain ⟨cur, hc, hx, _⟩ := (HKA.out (.cells #[.int .i64 0, .string Z] 42)).blk
          have hb := (hg4.block g (lt_of_block hc) (fun e => row_ne_page (HKA.out (.cells #[.int .i64 0, .string Z] 42)).ln hc (by decide) e.symm)).trans hc
          exact ⟨(Lib.cell_of_heap hb _).trans hx, Lib.frozen_of_heap hb _⟩
        obtain ⟨M, hM⟩ : ∃ M, M = q.1 ++ [(0, L2)] := ⟨_, rfl⟩
        rw [← hM] at ho4
        obtain ⟨A4, c4, rfl⟩ := ho4.form
        have HM := hide hM
        have HS4 := hide (HP3.out.setEv ho4 (grown_after ((below_one w3 (.cells #[.int .i64 0, .string Z] 42)).drew) hg4) (hor_new hor4 (below_one w3 _).size))
        clear ho4 hg4 hor4 hM)
      all_goals
        generalize (w4.setCell ⟨g, j, none⟩ (.slice A4 M.length c4)) = w5 at HS4 ⊢
        rw [← HM.out] at HN
        have HML : Hid (M.length = q.1.length + 1) := hide (by rw [HM.out, List.length_append]; rfl)
        obtain ⟨x0, x1, y0, y1⟩ := HS4.out.1.cells
        have HP5 := hide HS4.out.1
        have HF5 := hide (HF3.out.trans HS4.out.2)
        clear HS4 HP3 HF3 hcv d0 d1 d0d d1d d0a d1a HKA HSB HQ1 hblk4 hc4 x0 y0
        go_wp2_with fail
        obtain ⟨p6, f6⟩ := HP5.out.clearLv
        exact ⟨⟨Y, (M, []), _, _, rfl, by have := HLT.out; omega, hide p6, hide (HF5.out.trans f6), HN, hide ⟨by have h1 := HML.out; have h2 := HLT.out; have h3 := HRM.out.1; show M.length + Y.size ≤ _; omega, by have h2 := HLT.out; have h3 := HRM.out.2; show 0 + Y.size ≤ _; omega⟩⟩, by have := HLT.out; show Y.size < r.size; omega⟩
    · rw [hasC_false hm] at HC
      have e2 : beforeC 10 r.data.toList = r.data.toList := (cut_none 10 _ hm).1
      have HN : Hid ((q.1, q.2 ++ X.data.toList) = putS p s.data.toList) := hide (by rw [HXL.out, e2, ← putS_line q _ hm]; exact HE.out)
      clear hm e2 HCC HXL HYL HE
      go_wp2_with fail
      refine HC.out.mono ?_
      rintro e w1 ⟨rfl, hb1⟩
      have hp1 := HP.out.kept hb1
      have HB1 := hide hb1
      have HGL := hide HP.out.lt
      obtain ⟨c0, c1, f0, f1⟩ := hp1.cells
      have HP1 := hide hp1
      have HLN : Hid (q.2.length + X.size ≤ 140737488355328) := hide (by have h1 := HRM.out.2; have h2 := HSZ.out; omega)
      clear hb1 hp1 HC HP c0 f0
      go_wp2_with (
        refine wpList_text2 rfl _ _ rfl B (.slice Al q.2.length cl) q.2 rfl HP1.out.bt (Nat.le_trans HP1.out.Bg (Nat.le_of_lt HP1.out.lt)) X rfl HLN.out ?_
        intro l2 w2 ho2 hg2 hor2
        obtain ⟨hc2, hf2⟩ : w2.cell? ⟨g, j + 1, none⟩ = some (.slice Al q.2.length cl) ∧ w2.frozen? ⟨g, j + 1, none⟩ = false := by
          obtain ⟨cur, hc, _, hx⟩ := HP1.out.blk
          have hb := (hg2.block g (lt_of_block hc) (fun e => row_ne_page HP1.out.bt hc (by decide) e.symm)).trans hc
          exact ⟨(Lib.cell_of_heap hb _).trans hx, Lib.frozen_of_heap hb _⟩
        obtain ⟨L2, hL2⟩ : ∃ L, L = q.2 ++ X.data.toList := ⟨_, rfl⟩
        rw [← hL2] at ho2
        obtain ⟨A2, c2, rfl⟩ := ho2.form
        have HS2 := hide (HP1.out.setLv ho2 hg2 (hor_new hor2 (Nat.le_refl _)))
        have HN2 : Hid ((q.1, L2) = putS p s.data.toList) := hide (by rw [hL2]; exact HN.out)
        rw [HN2.out] at HS2
        clear ho2 hg2 hor2 c1 f1 hL2)
      (try simp only [Exit.inBlock, Exit.then])
      refine bodyPost_ret (results_none rfl _ _ _) rfl ?_
      exact ⟨rfl, _, _, HS2.out.1, (HF.out.trans (PgF.ofBelow _ _ HB1.out HGL.out)).trans HS2.out.2⟩
end Go.Proofs.Ytdeaofnhdbhknaa
