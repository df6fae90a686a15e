/- WALK of a page's add and quote. No statement is proved here. Own work of the verifier. -/
import Derived.Test.YtdeaofnhdbhknaaPnJ
import Derived.Test.YtdeaofnhdbhknaaEach
namespace Go.Proofs.Ytdeaofnhdbhknaa
open Go.RowKit
set_option linter.unusedVariables false
set_option linter.unusedSimpArgs false
set_option maxRecDepth 100000
set_option maxHeartbeats 4000000 in
theorem add_any (B g j : Nat) (p : PgL) (ev lv : Value) (x : LnL) (w : World) (h : PgW B g j p ev lv w) (h10 : (10 : UInt8) ∉ x.2) (hr : roomP p ((lineS x).length + 1)) :
    Calls Try.prog 50 #[.pointer (some ⟨g, j, none⟩), lnV x] w fun e w' => e = .returned (.tuple #[]) ∧ ∃ ev' lv', PgW B g j (addP p x) ev' lv' w' ∧ PgF g j ev lv ev' lv' w w' := by
  have hxs : 2 * x.1 + x.2.length = (lineS x).length := by unfold lineS; rw [List.length_append, signs_len]
  obtain ⟨Ae, ce, rfl⟩ := h.ln.form
  obtain ⟨Al, cl, rfl⟩ := h.bt.form
  obtain ⟨w1, hw1⟩ : ∃ w1, w.alloc (Obj.cells #[.int .i64 (x.1 : Int), .string (str x.2)] 42) = w1 := ⟨_, rfl⟩
  have hb1 : Below w.heap.size w w1 := by rw [← hw1]; exact below_one w _
  have hx1 : w1.heap[w.heap.size]? = some (Obj.cells #[.int .i64 (x.1 : Int), .string (str x.2)] 42 (0, 0)) := by rw [← hw1]; exact heap_alloc_new w _
  have hp1 := h.kept hb1
  have HF1 := hide (PgF.ofBelow (j := j) (.slice Ae p.1.length ce) (.slice Al p.2.length cl) hb1 h.lt)
  obtain ⟨c0, c1, f0, f1⟩ := hp1.cells
  have b0 : w1.cell? ⟨w.heap.size, 0, none⟩ = some (.int .i64 (x.1 : Int)) := (Lib.cell_of_heap hx1 0).trans rfl
  have b1 : w1.cell? ⟨w.heap.size, 1, none⟩ = some (.string (str x.2)) := (Lib.cell_of_heap hx1 1).trans rfl
  have HP1 := hide hp1
  have HX1 := hide hx1
  have HR := hide hr
  have hx2 : x.1 ≤ 4000000000000 ∧ x.2.length ≤ 4000000000000 := by have := hr.1; omega
  have HS := hide (lineStr_any x w1 hx2.1 hx2.2)
  unfold lnV at HS ⊢
  by_cases hp : p.2 = []
  · have t1 : decide ((0 : Int) < (p.2.length : Int)) = false := by rw [hp]; rfl
    have hn : ¬ (0 < p.2.length) := by rw [hp]; decide
    have HE : Hid ((p.1 ++ [x], p.2) = addP p x) := hide (by unfold addP; rw [if_pos hp, hp])
    have HQN : Hid (p.1.length + 1 ≤ 4398046511104) := hide (by have h1 := hr.1; omega)
    have hka : ∀ ob, PgW B g j p (.slice Ae p.1.length ce) (.slice Al p.2.length cl) (w1.alloc ob).drew := fun ob => hp1.kept ((below_one w1 ob).drew)
    have HKA := hide hka
    have c0d : w1.drew.cell? ⟨g, j, none⟩ = some (.slice Ae p.1.length ce) := c0
    have c0a : ∀ ob, (w1.alloc ob).drew.cell? ⟨g, j, none⟩ = some (.slice Ae p.1.length ce) := fun ob => (hka ob).cells.1
    have b0d : w1.drew.cell? ⟨w.heap.size, 0, none⟩ = some (.int .i64 (x.1 : Int)) := b0
    have b1d : w1.drew.cell? ⟨w.heap.size, 1, none⟩ = some (.string (str x.2)) := b1
    have HSB : Hid (B ≤ w1.heap.size) := hide (Nat.le_trans hp1.Bg (Nat.le_of_lt hp1.lt))
    clear h hr hxs hx1 hb1 hp1 hx2 hka hp HS
    go_enter Try.func50, Try.ntmps50
    go_wp2_with fail
    go_region_law (
      refine step_lns rfl _ _ rfl B (.slice Ae p.1.length ce) p.1 rfl x (HKA.out _).ln (Nat.le_trans HSB.out (below_one w1 _).size) _ rfl (two_ln _ _ _ _).1 (two_ln _ _ _ _).2 HQN.out ?_
      intro e2 w4 ho4 hg4 hor4
      obtain ⟨hc4, hf4⟩ : w4.cell? ⟨g, j, none⟩ = some (.slice Ae p.1.length ce) ∧ w4.frozen? ⟨g, j, none⟩ = false := by
        obtain ⟨cur, hc, hx, _⟩ := (HKA.out (.cells #[.int .i64 (x.1 : Int), .string (str x.2)] 42)).blk
        have hb := (hg4.block g (lt_of_block hc) (fun e => row_ne_page (HKA.out (.cells #[.int .i64 (x.1 : Int), .string (str x.2)] 42)).ln hc (by decide) e.symm)).trans hc
        exact ⟨(Lib.cell_of_heap hb _).trans hx, Lib.frozen_of_heap hb _⟩
      obtain ⟨M, hM⟩ : ∃ M, M = p.1 ++ [x] := ⟨_, rfl⟩
      rw [← hM] at ho4
      obtain ⟨A4, c4, rfl⟩ := ho4.form
      have HM : Hid ((M, p.2) = addP p x) := hide (by rw [hM]; exact HE.out)
      have HS4 := hide (HP1.out.setEv ho4 (grown_after ((below_one w1 (.cells #[.int .i64 (x.1 : Int), .string (str x.2)] 42)).drew) hg4) (hor_new hor4 (below_one w1 _).size))
      rw [HM.out] at HS4
      clear ho4 hg4 hor4 hM)
    all_goals
      go_wp2_with fail
      go_end0
      exact ⟨rfl, _, _, HS4.out.1, HF1.out.trans HS4.out.2⟩
  · have hpos : 0 < p.2.length := List.length_pos_iff.2 hp
    have t1 : decide ((0 : Int) < (p.2.length : Int)) = true := decide_eq_true (by omega)
    have HE : Hid (putS p (lineS x ++ [10]) = addP p x) := hide (by unfold addP; rw [if_neg hp])
    obtain ⟨X, hX⟩ : ∃ X, X = str (lineS x) := ⟨_, rfl⟩
    have HXS : Hid (X.size = (lineS x).length) := hide (by rw [hX, str_size])
    have HXX : Hid ((X ++ ⟨#[10]⟩ : ByteArray).data.toList = lineS x ++ [10]) := hide (by rw [hX]; simp [str])
    have hsum : ¬ (9223372036854775807 < X.size + 1) := by rw [HXS.out]; have := hr.1; omega
    rw [← hX] at HS
    clear h hr hxs hx1 hb1 hx2 hp hp1 hX
    go_enter Try.func50, Try.ntmps50
    go_wp2_with fail
    refine HS.out.mono ?_
    rintro e w2 ⟨rfl, hb2⟩
    have HP2 := hide (HP1.out.kept hb2)
    have HF2 := hide (HF1.out.trans (PgF.ofBelow (j := j) (.slice Ae p.1.length ce) (.slice Al p.2.length cl) hb2 HP1.out.lt))
    have HWR := hide (write_any B g j p (.slice Ae p.1.length ce) (.slice Al p.2.length cl) (X ++ ⟨#[10]⟩) w2 HP2.out (by rw [ByteArray.size_append, HXS.out]; have := HR.out.1; show _ + 1 ≤ _; omega) (by rw [ByteArray.size_append, HXS.out]; exact HR.out))
    clear hb2
    go_wp2_with fail
    refine HWR.out.mono ?_
    rintro e w3 ⟨rfl, e3, l3, hp3, hf3⟩
    rw [HXX.out, HE.out] at hp3
    have HP3 := hide hp3
    have HF3 := hide (HF2.out.trans hf3)
    clear hp3 hf3
    go_wp2_with fail
    (try simp only [Exit.inBlock, Exit.then])
    refine bodyPost_ret (results_none rfl _ _ _) rfl ?_
    exact ⟨rfl, _, _, HP3.out, HF3.out⟩
end Go.Proofs.Ytdeaofnhdbhknaa
