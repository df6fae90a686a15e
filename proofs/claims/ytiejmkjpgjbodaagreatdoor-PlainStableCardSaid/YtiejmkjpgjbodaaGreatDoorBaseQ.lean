/- More of the first texts of this claim in one: each with its own head. No statement is proved here. -/
import Derived.Test.YtiejmkjpgjbodaaGreatDoorBaseN
import Derived.Test.YtiejmkjpgjbodaaGreatDoorBaseM
import Derived.Test.YtiejmkjpgjbodaaGreatDoorBaseO
import Derived.Test.YtiejmkjpgjbodaaGreatDoorBaseP
import Derived.RangeFuncNested
import Derived.RangeFuncBound
import Derived.RangeFuncCalls
import Derived.RangeFuncLeaves
import Derived.RangeFuncBox
import Derived.Shelf.Abstract
import Derived.Shelf.RegionOpen
import Derived.OwnWalkIn
import Derived.TacticsInMore
import Derived.LoopNIn
import Derived.LoopIn
import Derived.Laws.OwnMore
import Derived.Deep.RegionHeld3
import Derived.Deep.LoopGhost
import Derived.IntWalk
import Derived.BigRegion
import Derived.StillTailTactics
import Derived.Laws.MakeOwn
namespace Go.Proofs.YtiejmkjpgjbodaaGreatDoor
open Go.RowKit Go.Shelf
set_option linter.unusedVariables false
set_option linter.unusedSimpArgs false
set_option maxRecDepth 100000
attribute [local go_sem] Oper.semAt_some
theorem below_grown {w w' : World} (hb : Below w.heap.size w w') : w.grownBy w' none := ⟨hb.os, hb.tape, hb.output, hb.size, fun k hk _ => hb.block k hk⟩
theorem abides_below {β : Type} {B : Nat} {J : β → World → Prop} (h : AbidesFrom B J) {s : β} {w w' : World} (hs : J s w) (hb : Below w.heap.size w w') : J s w' :=
  h s w w' none hs (below_grown hb) (fun r e => by cases e)
theorem trimSuffix_cr (l : List UInt8) : Lib.trimSuffix l [13] = trimCR l := by
  rcases List.eq_nil_or_concat l with rfl | ⟨r, c, rfl⟩
  · rfl
  · rw [List.concat_eq_append]
    unfold Lib.trimSuffix trimCR
    rw [List.getLast?_concat, List.dropLast_concat]
    by_cases h : c = 13
    · subst h
      have e : Lib.hasSuffix (r ++ [13]) [13] = true := by simp [Lib.hasSuffix]
      rw [e, if_pos rfl, if_pos rfl]; simp
    · have e : Lib.hasSuffix (r ++ [c]) [13] = false := by
        unfold Lib.hasSuffix
        rw [Bool.eq_false_iff]
        intro hh
        rw [List.isSuffixOf_iff_suffix] at hh
        obtain ⟨t, ht⟩ := hh
        have := congrArg List.getLast? ht
        rw [List.getLast?_concat, List.getLast?_concat] at this
        injection this with this
        exact h this.symm
      rw [e, if_neg (by decide), if_neg (fun e => h (Option.some.inj e))]
abbrev encsP (p : FieldL) : Array Value := #[.string (str p.1), .string (str p.2)]
set_option maxHeartbeats 2000000 in
theorem each1_in (n : Nat) (hn : 2 ≤ n) (l Bn : Nat) (s : ByteArray) (hs : s.size ≤ 70368744177664) (J Jx : List FieldL → World → Prop) (B0 : Nat) (hJ : AbidesFrom B0 J)
    (hY : ∀ pre x W, x.1.length ≤ s.size → J pre W → pre.length < s.size → YieldAt Fence.wide (n - 1) Tryz.prog l (encsP x) W fun e W' =>
      (e = .returned (.bool true) ∧ J (pre ++ [x]) W' ∧ KeepsWalks W W') ∨ (e = .returned (.bool false) ∧ Jx (pre ++ [x]) W'))
    (W : World) (hBn : W.cell? ⟨Bn, 0, none⟩ = some (.string s)) (h0 : J [] W) :
    CallsIn Fence.wide n Tryz.prog 112 #[.func (.yield l) #[] #[], .pointer (some ⟨Bn, 0, none⟩)] W fun e W' => (∃ v, e = .returned v) ∧
      ((∃ ys, ys = eachL s.data.toList ∧ J ys W') ∨ (∃ pre, pre <+: eachL s.data.toList ∧ Jx pre W')) := by
  refine callsIn_of_wp Tryz.func112 rfl trivial ?_ rfl
  simp only [Tryz.ntmps112, List.size_toArray, List.length_cons, List.length_nil, Nat.reduceAdd, Nat.reduceSub, Array.replicate_succ, Array.replicate_zero, List.push_toArray, List.append_toArray, List.nil_append, List.cons_append]
  gi_wp2
  gi_loopw [3] (fun p wr => ∃ (pre : List FieldL) (r : ByteArray), p = .string r ∧ Hid (eachL s.data.toList = pre ++ eachL r.data.toList) ∧ r.size ≤ s.size ∧ J pre wr)
    (fun p wr => szL p)
  case atStart =>
    exact ⟨[], s, rfl, hide rfl, Nat.le_refl _, h0⟩
  case round =>
    obtain ⟨pre, r, rfl, HE, hrs, hJs⟩ := hrel
    by_cases hr0 : r.data.toList = []
    · have t0 := emptyE hr0
      have HD : Hid (pre = eachL s.data.toList) := hide (by rw [HE.out, hr0, eachL_nil, List.append_nil])
      clear hr0
      gi_wp2
      go_end0
      exact ⟨⟨_, rfl⟩, .inl ⟨pre, HD.out, hJs⟩⟩
    have t0 := emptyN hr0
    have hE2 := eachL_cons hr0
    have HE2 : Hid (eachL s.data.toList = (pre ++ [(lineL r.data.toList, afterC 10 r.data.toList)]) ++ eachL (afterC 10 r.data.toList)) := hide (by rw [HE.out, hE2]; simp)
    have hpl : pre.length < s.size := by
      have h1 := (each_sum s.data.toList).2.1
      rw [HE2.out] at h1
      simp at h1
      have := toList_length s
      simp at this
      omega
    have haf := afterC_lt 10 hr0
    rw [toList_length] at haf
    obtain ⟨x, hx⟩ : ∃ x : FieldL, x = (lineL r.data.toList, afterC 10 r.data.toList) := ⟨_, rfl⟩
    obtain ⟨LN, hLN⟩ : ∃ LN, LN = str x.1 := ⟨_, rfl⟩
    obtain ⟨AF, hAF⟩ : ∃ AF, AF = str x.2 := ⟨_, rfl⟩
    have hAFs : AF.size < r.size := by rw [hAF, str_size, hx]; exact haf
    have HS : Hid (AF.size < r.size ∧ AF.size ≤ s.size) := hide ⟨hAFs, by omega⟩
    have HE3 : Hid (eachL s.data.toList = (pre ++ [x]) ++ eachL AF.data.toList) := hide (by rw [hAF, str_toList, hx]; exact HE2.out)
    have hxl : x.1.length ≤ s.size := by
      have h1 := (each_sum s.data.toList).2.2 x (by rw [HE2.out, hx]; simp)
      rw [toList_length] at h1; exact h1.1
    have HR := hide (fun W => hY pre x W hxl)
    clear hxl
    have HLN := hide hLN
    have HAF := hide hAF
    have HPL := hide hpl
    have hrm : r.size ≤ 70368744177664 := by omega
    clear hE2 HE2 haf HE hY hpl hAFs
    cases hh : hasC 10 r.data.toList with
    | false =>
      have HC : Hid (cutV 10 r.data.toList = .tuple #[.string LN, .string AF, .bool false]) := hide (by
        unfold cutV
        rw [hh, hLN, hAF, hx]
        unfold lineL
        rw [hh, if_neg (by decide)]
        rcases cut_case 10 r.data.toList with ⟨_, e1, _⟩ | ⟨a, q, e0, _⟩
        · rw [e1]
        · rw [hasC_true (by rw [e0]; simp)] at hh; cases hh)
      clear hh hr0 hx hLN hAF
      gi_wp2
      refine ⟨trivial, fun _ => (by omega), (callsIn_wide.2 (strCut_any r 10 _ hrm)).mono ?_⟩
      rintro e w1 ⟨rfl, hb1⟩
      rw [HC.out]
      have hJ1 := abides_below hJ hJs hb1
      obtain ⟨fn, tmps, assign, body, hy, hRd⟩ := HR.out w1 hJ1 HPL.out
      dsimp only [encsP] at hy
      rw [← HLN.out, ← HAF.out] at hy
      gi_wp2
      refine ⟨fun _ => (by omega), hRd.mono ?_⟩
      rintro e W3 (⟨rfl, hJ3, hk3⟩ | ⟨rfl, hJx3⟩)
      · gi_wp2
        go_roundw
        case rel => exact ⟨pre ++ [x], AF, rfl, HE3, HS.out.2, hJ3⟩
        case measure => exact HS.out.1
      · gi_wp2
        refine bodyPost_ret (results_none rfl _ _ _) rfl ?_
        exact ⟨⟨_, rfl⟩, .inr ⟨pre ++ [x], ⟨_, HE3.out.symm⟩, hJx3⟩⟩
    | true =>
      have HC : Hid (cutV 10 r.data.toList = .tuple #[.string (str (beforeC 10 r.data.toList)), .string AF, .bool true]) := hide (by
        unfold cutV; rw [hh, hAF, hx])
      have HT : Hid ((⟨(Lib.trimSuffix (str (beforeC 10 r.data.toList)).data.toList [13]).toArray⟩ : ByteArray) = LN) := hide (by
        rw [str_toList, trimSuffix_cr, hLN, hx]
        unfold lineL
        rw [hh, if_pos rfl]; rfl)
      have hbs : (str (beforeC 10 r.data.toList)).size ≤ 9223372036854775807 := by
        rw [str_size]
        have h1 : (beforeC 10 r.data.toList).length ≤ r.data.toList.length := (List.takeWhile_sublist _).length_le
        rw [toList_length] at h1; omega
      obtain ⟨BF, hBF⟩ : ∃ BF, BF = str (beforeC 10 r.data.toList) := ⟨_, rfl⟩
      rw [← hBF] at HC HT hbs
      have HBS := hide hbs
      clear hh hr0 hx hLN hAF hBF hbs
      gi_wp2
      refine ⟨trivial, fun _ => (by omega), (callsIn_wide.2 (strCut_any r 10 _ hrm)).mono ?_⟩
      rintro e w1 ⟨rfl, hb1⟩
      rw [HC.out]
      have hJ1 := abides_below hJ hJs hb1
      clear hb1
      gi_wp2
      refine ⟨trivial, fun _ => (by omega), (callsIn_wide.2 (Tryz.strings_TrimSuffix BF ⟨#[13]⟩ _ HBS.out)).mono ?_⟩
      rintro e w2 ⟨rfl, rfl⟩
      rw [show (⟨#[13]⟩ : ByteArray).data.toList = [13] from rfl, HT.out]
      obtain ⟨fn, tmps, assign, body, hy, hRd⟩ := HR.out _ hJ1 HPL.out
      dsimp only [encsP] at hy
      rw [← HLN.out, ← HAF.out] at hy
      gi_wp2
      refine ⟨fun _ => (by omega), hRd.mono ?_⟩
      rintro e W3 (⟨rfl, hJ3, hk3⟩ | ⟨rfl, hJx3⟩)
      · gi_wp2
        go_roundw
        case rel => exact ⟨pre ++ [x], AF, rfl, HE3, HS.out.2, hJ3⟩
        case measure => exact HS.out.1
      · gi_wp2
        refine bodyPost_ret (results_none rfl _ _ _) rfl ?_
        exact ⟨⟨_, rfl⟩, .inr ⟨pre ++ [x], ⟨_, HE3.out.symm⟩, hJx3⟩⟩
set_option maxHeartbeats 1000000 in
theorem each_in (n : Nat) (hn : 1 ≤ n) (s : ByteArray) (w : World) :
    CallsIn Fence.wide n Tryz.prog 71 #[.string s] w fun e w' => e = .returned (.func (.func 112) #[] #[.pointer (some ⟨w.heap.size, 0, none⟩)]) ∧ w' = w.alloc (.cells #[.string s] 9) := by
  refine callsIn_of_wp Tryz.func71 rfl trivial ?_ rfl
  simp only [Tryz.ntmps71, List.size_toArray, List.length_cons, List.length_nil, Nat.reduceAdd, Nat.reduceSub, Array.replicate_succ, Array.replicate_zero, List.push_toArray, List.append_toArray, List.nil_append, List.cons_append]
  gi_wp2
  go_ret
  exact ⟨rfl, rfl⟩
theorem each_stops (n : Nat) (hn : 2 ≤ n) (Bn : Nat) (s : ByteArray) (hs : s.size ≤ 70368744177664) (w : World) (hBn : Bn < w.heap.size) (hc : w.cell? ⟨Bn, 0, none⟩ = some (.string s)) :
    SeqStopsK Fence.wide n Tryz.prog 112 #[.pointer (some ⟨Bn, 0, none⟩)] encsP KeepsWalks (fun ys => ys = eachL s.data.toList) (fun pre => pre <+: eachL s.data.toList) s.size w := fun l J Jx W hW hJ hJx hY h0 =>
  each1_in n hn l Bn s hs J Jx W.heap.size hJ (fun pre x W _ => hY pre x W) W ((hW.cell (p := ⟨Bn, 0, none⟩) hBn).trans hc) h0
end Go.Proofs.YtiejmkjpgjbodaaGreatDoor

namespace Go.Proofs.YtiejmkjpgjbodaaGreatDoor
open Go.RowKit
set_option linter.unusedVariables false
set_option linter.unusedSimpArgs false
set_option maxRecDepth 100000
set_option maxHeartbeats 4000000 in
theorem add_anyPn (B g j : Nat) (p : PgL) (ev lv : Value) (x : LnL) (w : World) (h : PgW B g j p ev lv w) (h10 : (10 : UInt8) ∉ x.2) (hr : roomP p ((lineS x).length + 1)) :
    Calls Tryz.prog 141 #[.pointer (some ⟨g, j, none⟩), lnV x] w fun e w' => e = .returned (.tuple #[]) ∧ ∃ ev' lv', PgW B g j (addP p x) ev' lv' w' ∧ PgF g j ev lv ev' lv' w w' := by
  have hxs : 2 * x.1 + x.2.length = (lineS x).length := by unfold lineS; rw [List.length_append, signs_len]
  obtain ⟨Ae, ce, rfl⟩ := h.ln.form
  obtain ⟨Al, cl, rfl⟩ := h.bt.form
  obtain ⟨w1, hw1⟩ : ∃ w1, w.alloc (Obj.cells #[.int .i64 (x.1 : Int), .string (str x.2)] 40) = w1 := ⟨_, rfl⟩
  have hb1 : Below w.heap.size w w1 := by rw [← hw1]; exact below_one w _
  have hx1 : w1.heap[w.heap.size]? = some (Obj.cells #[.int .i64 (x.1 : Int), .string (str x.2)] 40 (0, 0)) := by rw [← hw1]; exact heap_alloc_new w _
  have hp1 := h.kept hb1
  have HF1 := hide (PgF.ofBelow (j := j) (.slice Ae p.1.length ce) (.slice Al p.2.length cl) hb1 h.lt)
  obtain ⟨c0, c1, f0, f1⟩ := hp1.cells
  have b0 : w1.cell? ⟨w.heap.size, 0, none⟩ = some (.int .i64 (x.1 : Int)) := (Lib.cell_of_heap hx1 0).trans rfl
  have b1 : w1.cell? ⟨w.heap.size, 1, none⟩ = some (.string (str x.2)) := (Lib.cell_of_heap hx1 1).trans rfl
  have HP1 := hide hp1
  have HX1 := hide hx1
  have HR := hide hr
  have hx2 : x.1 ≤ 4000000000000 ∧ x.2.length ≤ 4000000000000 := by have := hr.1; omega
  have HS := hide (lineStr_any x w1 hx2.1 hx2.2)
  unfold lnV at HS ⊢
  by_cases hp : p.2 = []
  · have t1 : decide ((0 : Int) < (p.2.length : Int)) = false := by rw [hp]; rfl
    have hn : ¬ (0 < p.2.length) := by rw [hp]; decide
    have HE : Hid ((p.1 ++ [x], p.2) = addP p x) := hide (by unfold addP; rw [if_pos hp, hp])
    have HQN : Hid (p.1.length + 1 ≤ 4398046511104) := hide (by have h1 := hr.1; omega)
    have hka : ∀ ob, PgW B g j p (.slice Ae p.1.length ce) (.slice Al p.2.length cl) (w1.alloc ob).drew := fun ob => hp1.kept ((below_one w1 ob).drew)
    have HKA := hide hka
    have c0d : w1.drew.cell? ⟨g, j, none⟩ = some (.slice Ae p.1.length ce) := c0
    have c0a : ∀ ob, (w1.alloc ob).drew.cell? ⟨g, j, none⟩ = some (.slice Ae p.1.length ce) := fun ob => (hka ob).cells.1
    have b0d : w1.drew.cell? ⟨w.heap.size, 0, none⟩ = some (.int .i64 (x.1 : Int)) := b0
    have b1d : w1.drew.cell? ⟨w.heap.size, 1, none⟩ = some (.string (str x.2)) := b1
    have HSB : Hid (B ≤ w1.heap.size) := hide (Nat.le_trans hp1.Bg (Nat.le_of_lt hp1.lt))
    clear h hr hxs hx1 hb1 hp1 hx2 hka hp HS
    go_enter Tryz.func141, Tryz.ntmps141
    go_wp2_with fail
    go_region_law (
      refine step_lns rfl _ _ rfl B (.slice Ae p.1.length ce) p.1 rfl x (HKA.out _).ln (Nat.le_trans HSB.out (below_one w1 _).size) _ rfl (two_ln _ _ _ _).1 (two_ln _ _ _ _).2 HQN.out ?_
      intro e2 w4 ho4 hg4 hor4
      obtain ⟨hc4, hf4⟩ : w4.cell? ⟨g, j, none⟩ = some (.slice Ae p.1.length ce) ∧ w4.frozen? ⟨g, j, none⟩ = false := by
        obtain ⟨cur, hc, hx, _⟩ := (HKA.out (.cells #[.int .i64 (x.1 : Int), .string (str x.2)] 40)).blk
        have hb := (hg4.block g (lt_of_block hc) (fun e => row_ne_page (HKA.out (.cells #[.int .i64 (x.1 : Int), .string (str x.2)] 40)).ln hc (by decide) e.symm)).trans hc
        exact ⟨(Lib.cell_of_heap hb _).trans hx, Lib.frozen_of_heap hb _⟩
      obtain ⟨M, hM⟩ : ∃ M, M = p.1 ++ [x] := ⟨_, rfl⟩
      rw [← hM] at ho4
      obtain ⟨A4, c4, rfl⟩ := ho4.form
      have HM : Hid ((M, p.2) = addP p x) := hide (by rw [hM]; exact HE.out)
      have HS4 := hide (HP1.out.setEv ho4 (grown_after ((below_one w1 (.cells #[.int .i64 (x.1 : Int), .string (str x.2)] 40)).drew) hg4) (hor_new hor4 (below_one w1 _).size))
      rw [HM.out] at HS4
      clear ho4 hg4 hor4 hM)
    all_goals
      go_wp2_with fail
      go_end0
      exact ⟨rfl, _, _, HS4.out.1, HF1.out.trans HS4.out.2⟩
  · have hpos : 0 < p.2.length := List.length_pos_iff.2 hp
    have t1 : decide ((0 : Int) < (p.2.length : Int)) = true := decide_eq_true (by omega)
    have HE : Hid (putS p (lineS x ++ [10]) = addP p x) := hide (by unfold addP; rw [if_neg hp])
    obtain ⟨X, hX⟩ : ∃ X, X = str (lineS x) := ⟨_, rfl⟩
    have HXS : Hid (X.size = (lineS x).length) := hide (by rw [hX, str_size])
    have HXX : Hid ((X ++ ⟨#[10]⟩ : ByteArray).data.toList = lineS x ++ [10]) := hide (by rw [hX]; simp [str])
    have hsum : ¬ (9223372036854775807 < X.size + 1) := by rw [HXS.out]; have := hr.1; omega
    rw [← hX] at HS
    clear h hr hxs hx1 hb1 hx2 hp hp1 hX
    go_enter Tryz.func141, Tryz.ntmps141
    go_wp2_with fail
    refine HS.out.mono ?_
    rintro e w2 ⟨rfl, hb2⟩
    have HP2 := hide (HP1.out.kept hb2)
    have HF2 := hide (HF1.out.trans (PgF.ofBelow (j := j) (.slice Ae p.1.length ce) (.slice Al p.2.length cl) hb2 HP1.out.lt))
    have HWR := hide (write_any B g j p (.slice Ae p.1.length ce) (.slice Al p.2.length cl) (X ++ ⟨#[10]⟩) w2 HP2.out (by rw [ByteArray.size_append, HXS.out]; have := HR.out.1; show _ + 1 ≤ _; omega) (by rw [ByteArray.size_append, HXS.out]; exact HR.out))
    clear hb2
    go_wp2_with fail
    refine HWR.out.mono ?_
    rintro e w3 ⟨rfl, e3, l3, hp3, hf3⟩
    rw [HXX.out, HE.out] at hp3
    have HP3 := hide hp3
    have HF3 := hide (HF2.out.trans hf3)
    clear hp3 hf3
    go_wp2_with fail
    (try simp only [Exit.inBlock, Exit.then])
    refine bodyPost_ret (results_none rfl _ _ _) rfl ?_
    exact ⟨rfl, _, _, HP3.out, HF3.out⟩
end Go.Proofs.YtiejmkjpgjbodaaGreatDoor

namespace Go.Proofs.YtiejmkjpgjbodaaGreatDoor
open Go.RowKit
set_option linter.unusedVariables false
set_option linter.unusedSimpArgs false
set_option maxRecDepth 100000
def Apart (ev lv qe ql : Value) : Prop := ∀ k, ev.ownBlock = some k ∨ lv.ownBlock = some k → qe.ownBlock ≠ some k ∧ ql.ownBlock ≠ some k
theorem row_same {w w' : World} {B : Nat} {e : TypeId} {sz n : Nat} {v : Value} {xs : List Value} (h : w.ownsRow B e sz v n xs) (hk : ∀ k, v.ownBlock = some k → w'.heap[k]? = w.heap[k]?) : w'.ownsRow B e sz v n xs := by
  refine ⟨h.1, ?_⟩
  rcases h.2 with h0 | ⟨g, cap, cur, rfl, h1, h2, h3⟩
  · exact .inl h0
  · exact .inr ⟨g, cap, cur, rfl, h1, (hk g rfl).trans h2, h3⟩
theorem PgW.other {B2 g j j2 : Nat} {q : PgL} {ev lv ev' lv' qe ql : Value} {w w' : World} (h : PgW B2 g j2 q qe ql w) (hf : PgF g j ev lv ev' lv' w w') (ha : Apart ev lv qe ql) (h1 : j2 ≠ j) (h2 : j2 ≠ j + 1) (h3 : j2 + 1 ≠ j) :
    PgW B2 g j2 q qe ql w' ∧ Apart ev' lv' qe ql := by
  obtain ⟨cur, hc, c0, c1⟩ := h.blk
  obtain ⟨cur', hc', hs', hi'⟩ := hf.row cur hc
  have hkeep : ∀ k, qe.ownBlock = some k ∨ ql.ownBlock = some k → k < w.heap.size ∧ w'.heap[k]? = w.heap[k]? := fun k hk => by
    have hlt : k < w.heap.size := by
      rcases hk with hk | hk
      · exact (h.low.1 k hk).2
      · exact (h.low.2 k hk).2
    have hg : k ≠ g := by
      rintro rfl
      rcases hk with hk | hk
      · exact row_ne_page h.ln hc (by decide) hk
      · exact row_ne_page h.bt hc (by decide) hk
    refine ⟨hlt, hf.far k hlt hg (fun e => ?_) (fun e => ?_)⟩
    · obtain ⟨a1, a2⟩ := ha k (.inl e)
      rcases hk with hk | hk
      · exact a1 hk
      · exact a2 hk
    · obtain ⟨a1, a2⟩ := ha k (.inr e)
      rcases hk with hk | hk
      · exact a1 hk
      · exact a2 hk
  refine ⟨⟨⟨cur', hc', (hi' j2 h1 h2).trans c0, (hi' (j2 + 1) h3 (by omega)).trans c1⟩, row_same h.ln (fun k e => (hkeep k (.inl e)).2), row_same h.bt (fun k e => (hkeep k (.inr e)).2), h.Bg⟩, fun k hk => ?_⟩
  have : (ev.ownBlock = some k ∨ lv.ownBlock = some k) ∨ w.heap.size ≤ k := by
    rcases hk with hk | hk
    · rcases hf.en k hk with e | e
      · exact .inl (.inl e)
      · exact .inr e
    · rcases hf.ln k hk with e | e
      · exact .inl (.inr e)
      · exact .inr e
  rcases this with e | e
  · exact ha k e
  · exact ⟨fun e2 => by have := (hkeep k (.inl e2)).1; omega, fun e2 => by have := (hkeep k (.inr e2)).1; omega⟩
theorem addP_last (p : PgL) (x : LnL) : (addP p x).2 = [] := by
  unfold addP
  split
  · rfl
  · rw [putS_append, putS_cons, putS_nil]; unfold putC; rw [if_pos rfl]
def qlen (l : List LnL) : Nat := (l.map fun x => (lineS (x.1 + 1, trimCR x.2)).length + 1).sum
theorem room_add {p : PgL} {x : LnL} {n : Nat} (hx : (10 : UInt8) ∉ x.2) (h : roomP p ((lineS x).length + 1 + n)) : roomP (addP p x) n ∧ roomP p ((lineS x).length + 1) := by
  obtain ⟨h1, h2⟩ := h
  refine ⟨⟨?_, ?_⟩, ⟨by omega, by omega⟩⟩
  · rw [addP_lines hx]; omega
  · rw [addP_last]; show 0 + n ≤ _; omega
set_option maxHeartbeats 4000000 in
theorem quote_any (B g j j2 : Nat) (p q : PgL) (ev lv qe ql : Value) (w : World) (h : PgW B g j p ev lv w) (hq : PgW B g j2 q qe ql w) (ha : Apart ev lv qe ql) (h1 : j2 ≠ j) (h2 : j2 ≠ j + 1) (h3 : j2 + 1 ≠ j) (hok : PgOK q) (hr : roomP p (qlen q.1 + q.2.length + 3)) (hb : bytW [q] ≤ 4000000000000) :
    Calls Tryz.prog 109 #[.pointer (some ⟨g, j, none⟩), .pointer (some ⟨g, j2, none⟩)] w fun e w' => e = .returned (.tuple #[]) ∧ ∃ ev' lv', PgW B g j (quoteP p q) ev' lv' w' ∧ PgF g j ev lv ev' lv' w w' := by
  obtain ⟨Ae, ce, rfl⟩ := hq.ln.form
  obtain ⟨Al, cl, rfl⟩ := hq.bt.form
  obtain ⟨c0, c1, -, -⟩ := hq.cells
  have hlen : q.1.length ≤ 4000000000000 := by
    have h0 : ∀ l : List LnL, l.length ≤ qlen l := fun l => by
      induction l with
      | nil => exact Nat.le_refl _
      | cons x r ih => unfold qlen at *; simp only [List.map_cons, List.sum_cons, List.length_cons]; omega
    have := h0 q.1
    have := hr.1
    omega
  have H := hide h
  have HQ := hide hq
  have HA := hide ha
  have HR : Hid (roomP p (qlen (q.1.drop 0) + q.2.length + 3)) := hide (by simpa using hr)
  have HOK := hide hok
  have HJ := hide (And.intro h1 (And.intro h2 h3))
  have HLN := hide hlen
  clear h hq ha hr hok h1 h2 h3 hb
  go_enter Tryz.func109, Tryz.ntmps109
  go_wp2_with fail
  go_loopw [11] (fun i wr => ∃ (k : Nat) (p' : PgL) (e1 l1 : Value), k ≤ q.1.length ∧ i = .int .i64 k ∧ Hid (PgW B g j p' e1 l1 wr) ∧ Hid (PgF g j ev lv e1 l1 w wr) ∧ Hid (PgW B g j2 q (.slice Ae q.1.length ce) (.slice Al q.2.length cl) wr) ∧ Hid (Apart e1 l1 (.slice Ae q.1.length ce) (.slice Al q.2.length cl)) ∧ Hid ((q.1.drop k).foldl quoteOne p' = q.1.foldl quoteOne p) ∧ Hid (roomP p' (qlen (q.1.drop k) + q.2.length + 3))) (fun i _ => q.1.length - (intOf i).toNat)
  case atStart => exact ⟨0, p, ev, lv, Nat.zero_le _, rfl, H, hide (PgF.refl ..), HQ, HA, hide (by simp), HR⟩
  case round =>
    obtain ⟨k, p', e1, l1, hk, rfl, HP, HF, HQ1, HA1, HD, HRM⟩ := hrel
    by_cases hlt : k < q.1.length
    · obtain ⟨x, hx⟩ : ∃ x, q.1[k]? = some x := ⟨_, List.getElem?_eq_getElem hlt⟩
      have hd : q.1.drop k = x :: q.1.drop (k + 1) := by
        rw [List.drop_eq_getElem_cons hlt]; congr 1; rw [List.getElem?_eq_getElem hlt] at hx; exact Option.some.inj hx
      obtain ⟨a, rfl, -, hcap, hmax, hat⟩ := (LnRow.in HQ1.out.ln).some (fun e => by rw [e] at hlt; simp at hlt)
      obtain ⟨d0, d1⟩ := hat.at hx
      have hx10 : (10 : UInt8) ∉ x.2 := HOK.out.1 x (List.mem_of_getElem? hx)
      have hxl := HRM.out
      rw [hd] at hxl
      have hql : qlen (x :: q.1.drop (k + 1)) + q.2.length + 3 = (lineS (x.1 + 1, trimCR x.2)).length + 1 + (qlen (q.1.drop (k + 1)) + q.2.length + 3) := by
        unfold qlen; simp only [List.map_cons, List.sum_cons]; omega
      rw [hql] at hxl
      obtain ⟨r1, r2⟩ := room_add (x := (x.1 + 1, trimCR x.2)) (trimCR_lf hx10) hxl
      have hlx : 2 * (x.1 + 1) + (trimCR x.2).length ≤ 4000000000000 := by
        have := r2.1; unfold lineS at this; rw [List.length_append, signs_len] at this; simp only at this; omega
      have htl : x.2.length ≤ (trimCR x.2).length + 1 := by
        unfold trimCR; split
        · rw [List.length_dropLast]; omega
        · omega
      obtain ⟨w1, hw1⟩ : ∃ w1, wr.alloc (Obj.cells #[.int .i64 (x.1 : Int), .string (str x.2)] 40) = w1 := ⟨_, rfl⟩
      have hb1 : Below wr.heap.size wr w1 := by rw [← hw1]; exact below_one wr _
      have hx1 : w1.heap[wr.heap.size]? = some (Obj.cells #[.int .i64 (x.1 : Int), .string (str x.2)] 40 (0, 0)) := by rw [← hw1]; exact heap_alloc_new wr _
      have b0 : w1.drew.cell? ⟨wr.heap.size, 0, none⟩ = some (.int .i64 (x.1 : Int)) := (Lib.cell_of_heap hx1 0).trans rfl
      have b1 : w1.drew.cell? ⟨wr.heap.size, 1, none⟩ = some (.string (str x.2)) := (Lib.cell_of_heap hx1 1).trans rfl
      have HP1 := hide (HP.out.kept hb1.drew)
      have HF1 := hide (HF.out.trans (PgF.ofBelow _ _ hb1.drew HP.out.lt))
      have HQ2 := hide (HQ1.out.kept hb1.drew)
      have hwr : IntKind.i64.wrap ((x.1 : Int) + 1) = (x.1 : Int) + 1 := IntWalk.i64_in _ (by omega)
      have HT : Hid (Calls Tryz.prog 114 #[.string (str x.2), .string ⟨#[13]⟩] w1.drew fun e w' => e = .returned (.string (str (trimCR x.2))) ∧ w' = w1.drew) := hide (by
        have := Tryz.strings_TrimSuffix (str x.2) ⟨#[13]⟩ w1.drew (by rw [str_size]; omega)
        rw [show Lib.trimSuffix (str x.2).data.toList (⟨#[13]⟩ : ByteArray).data.toList = trimCR x.2 from trimSuffix_cr _] at this
        exact this)
      have HAD : Hid (Calls Tryz.prog 141 #[.pointer (some ⟨g, j, none⟩), .agg #[.int .i64 ((x.1 : Int) + 1), .string (str (trimCR x.2))]] w1.drew fun e w' => e = .returned (.tuple #[]) ∧ ∃ ev' lv', PgW B g j (quoteOne p' x) ev' lv' w' ∧ PgF g j e1 l1 ev' lv' w1.drew w') := hide (add_anyPn B g j p' e1 l1 (x.1 + 1, trimCR x.2) w1.drew HP1.out (trimCR_lf hx10) r2)
      have HD2 : Hid ((q.1.drop (k + 1)).foldl quoteOne (quoteOne p' x) = q.1.foldl quoteOne p) := hide (by rw [← HD.out, hd]; rfl)
      have HRM2 : Hid (roomP (quoteOne p' x) (qlen (q.1.drop (k + 1)) + q.2.length + 3)) := hide r1
      obtain ⟨S, hS⟩ : ∃ S, S = str x.2 := ⟨_, rfl⟩
      obtain ⟨S2, hS2⟩ : ∃ S, S = str (trimCR x.2) := ⟨_, rfl⟩
      rw [← hS] at d1 hw1 b1 HT
      rw [← hS2] at HT HAD
      clear hx hd hat hx10 hxl hql r1 r2 hlx htl hb1 hx1 HD HRM HP HF HQ1 hcap hmax hS hS2
      go_wp2_with fail
      go_region_law (first
        | (go_simp; (with_reducible refine HT.out.mono ?_); rintro e w2 ⟨rfl, rfl⟩)
        | (go_simp; (with_reducible refine HAD.out.mono ?_); rintro e w2 ⟨rfl, e2, l2, hp2, hf2⟩; have HP2 := hide hp2; have HFF := hide hf2; clear hp2 hf2))
      all_goals
        obtain ⟨q3, a3⟩ := HQ2.out.other HFF.out HA1.out HJ.out.1 HJ.out.2.1 HJ.out.2.2
        have HQ3 := hide q3
        have HA3 := hide a3
        have HF3 := hide (HF1.out.trans HFF.out)
        clear q3 a3
        go_wp2_with fail
        go_roundw
        case rel => exact ⟨k + 1, quoteOne p' x, e2, l2, by omega, by go_num, HP2, HF3, HQ3, HA3, HD2, HRM2⟩
        case measure => have := HLN.out; simp [intOf]; omega
    · obtain rfl : k = q.1.length := by omega
      have HD2 : Hid (p' = q.1.foldl quoteOne p) := hide (by rw [← HD.out, List.drop_length]; rfl)
      obtain ⟨y0, y1, -, -⟩ := HQ1.out.cells
      by_cases hp : q.2 = []
      · have t1 : decide ((0 : Int) < (q.2.length : Int)) = false := by rw [hp]; rfl
        have hn : ¬ (0 < q.2.length) := by rw [hp]; decide
        have HE : Hid (p' = quoteP p q) := hide (by unfold quoteP; rw [if_pos hp]; exact HD2.out)
        clear hp HD HD2
        go_wp2_with fail
        go_end0
        exact ⟨rfl, _, _, by rw [← HE.out]; exact HP.out, HF.out⟩
      · have hpos : 0 < q.2.length := List.length_pos_iff.2 hp
        have t1 : decide ((0 : Int) < (q.2.length : Int)) = true := decide_eq_true (by omega)
        have HE : Hid (addP p' (1, q.2) = quoteP p q) := hide (by unfold quoteP; rw [if_neg hp, ← HD2.out])
        have hcv : (convert 56 9 (.slice Al q.2.length cl)).run Tryz.prog wr = .ok (.string (str q.2)) wr := ByRow.convert HQ1.out.bt
        have HAD := hide (add_anyPn B g j p' e1 l1 (1, q.2) wr HP.out HOK.out.2 (by
          have := HRM.out
          rw [List.drop_length] at this
          have e : (lineS (1, q.2)).length = 2 + q.2.length := by unfold lineS; rw [List.length_append, signs_len]; show 2 * 1 + q.2.length = _; omega
          rw [e]
          exact ⟨by have := this.1; omega, by have := this.2; omega⟩))
        unfold lnV at HAD
        obtain ⟨S, hS⟩ : ∃ S, S = str q.2 := ⟨_, rfl⟩
        simp only at HAD
        rw [← hS] at hcv HAD
        clear hp HD HD2 hS
        go_wp2_with fail
        refine HAD.out.mono ?_
        rintro e w2 ⟨rfl, e2, l2, hp2, hf2⟩
        rw [HE.out] at hp2
        have HP2 := hide hp2
        have HFF := hide (HF.out.trans hf2)
        clear hp2 hf2
        go_wp2_with fail
        go_end0
        exact ⟨rfl, _, _, HP2.out, HFF.out⟩
end Go.Proofs.YtiejmkjpgjbodaaGreatDoor

namespace Go.Proofs.YtiejmkjpgjbodaaGreatDoor
open Go.RowKit
set_option linter.unusedVariables false
set_option linter.unusedSimpArgs false
set_option maxRecDepth 100000
structure PgV where
  p : PgL
  ev : Value
  lv : Value
def pgVals (l : List PgV) : List Value := l.flatMap fun q => [q.ev, q.lv]
theorem pgVals_length (l : List PgV) : (pgVals l).length = l.length * 2 := by
  induction l with
  | nil => rfl
  | cons f r ih => unfold pgVals at *; rw [List.flatMap_cons, List.length_append, ih]; simp; omega
theorem pgVals_append (a b : List PgV) : pgVals (a ++ b) = pgVals a ++ pgVals b := by unfold pgVals; rw [List.flatMap_append]
abbrev PlL := Nat × Nat
def plVals (l : List PlL) : List Value := l.flatMap fun q => [.int .i64 (q.1 : Int), .int .i64 (q.2 : Int)]
theorem plVals_length (l : List PlL) : (plVals l).length = l.length * 2 := by
  induction l with
  | nil => rfl
  | cons f r ih => unfold plVals at *; rw [List.flatMap_cons, List.length_append, ih]; simp; omega
theorem plVals_append (a b : List PlL) : plVals (a ++ b) = plVals a ++ plVals b := by unfold plVals; rw [List.flatMap_append]
def apartV (a b : PgV) : Prop := Apart a.ev a.lv b.ev b.lv
structure WrM (B b : Nat) (pv bv : Value) (qs : List PgV) (bs : List PlL) (w : World) : Prop where
  blk : w.heap[b]? = some (.cells #[pv, bv] 93 (0, 0))
  pgs : w.ownsRow B 124 2 pv qs.length (pgVals qs.reverse)
  pls : w.ownsRow B 126 2 bv bs.length (plVals bs.reverse)
  each : ∀ q ∈ qs, LnRow B q.ev q.p.1 w ∧ ByRow B q.lv q.p.2 w
  apart : qs.Pairwise apartV
  Bb : B ≤ b
theorem WrM.page {B b : Nat} {pv bv : Value} {q : PgV} {rest : List PgV} {bs : List PlL} {w : World} (h : WrM B b pv bv (q :: rest) bs w) : ∃ g c, pv = .slice (some ⟨g, 0, none⟩) (rest.length + 1) c ∧ rest.length + 1 ≤ c ∧ c ≤ maxLen ∧ PgW B g (rest.length * 2) q.p q.ev q.lv w := by
  obtain ⟨h1, h2⟩ := h.each q (List.mem_cons_self ..)
  rcases h.pgs.2 with ⟨_, h0⟩ | ⟨g, cap, cur, rfl, hg, hh, hc, hm, hs, ht⟩
  · cases h0
  · have ha : ∀ j, j < 2 → cur[rest.length * 2 + j]? = [q.ev, q.lv][j]? := fun j hj => by
      have e : (pgVals (q :: rest).reverse)[rest.length * 2 + j]? = [q.ev, q.lv][j]? := by
        rw [List.reverse_cons, pgVals_append, List.getElem?_append_right (by rw [pgVals_length, List.length_reverse]; omega), pgVals_length, List.length_reverse, show rest.length * 2 + j - rest.length * 2 = j by omega]
        rfl
      rw [← e, ← ht, List.getElem?_take, if_pos (by simp only [List.length_cons]; omega), Array.getElem?_toList]
    exact ⟨g, cap, rfl, by simpa using hc, hm, ⟨cur, hh, ha 0 (by decide), ha 1 (by decide)⟩, h1, h2, hg⟩
theorem WrM.cells {B b : Nat} {pv bv : Value} {qs : List PgV} {bs : List PlL} {w : World} (h : WrM B b pv bv qs bs w) : w.cell? ⟨b, 0, none⟩ = some pv ∧ w.cell? ⟨b, 1, none⟩ = some bv ∧ (∀ i, w.frozen? ⟨b, i, none⟩ = false) :=
  ⟨(Lib.cell_of_heap h.blk 0).trans rfl, (Lib.cell_of_heap h.blk 1).trans rfl, fun i => Lib.frozen_of_heap h.blk i⟩
theorem WrM.kept {B b : Nat} {pv bv : Value} {qs : List PgV} {bs : List PlL} {w w' : World} (h : WrM B b pv bv qs bs w) (hb : Below w.heap.size w w') : WrM B b pv bv qs bs w' :=
  ⟨(hb.block b (lt_of_block h.blk)).trans h.blk, h.pgs.kept (grown_none hb) (by cases hv : pv.ownBlock <;> simp), h.pls.kept (grown_none hb) (by cases hv : bv.ownBlock <;> simp),
   fun q hq => ⟨World.ownsRow.kept (h.each q hq).1 (grown_none hb) (by cases hv : q.ev.ownBlock <;> simp), World.ownsRow.kept (h.each q hq).2 (grown_none hb) (by cases hv : q.lv.ownBlock <;> simp)⟩, h.apart, h.Bb⟩
theorem WrM.lt {B b : Nat} {pv bv : Value} {qs : List PgV} {bs : List PlL} {w : World} (h : WrM B b pv bv qs bs w) : b < w.heap.size := lt_of_block h.blk
set_option maxHeartbeats 1000000 in
theorem inner_any (B b : Nat) (pv bv : Value) (q : PgV) (rest : List PgV) (bs : List PlL) (w : World) (h : WrM B b pv bv (q :: rest) bs w) (g c : Nat) (hpv : pv = .slice (some ⟨g, 0, none⟩) (rest.length + 1) c) (hn : rest.length ≤ 1000000000) :
    Calls Tryz.prog 69 #[.pointer (some ⟨b, 0, none⟩)] w fun e w' => e = .returned (.pointer (some ⟨g, rest.length * 2, none⟩)) ∧ ∃ m, w' = w.drewN m := by
  obtain ⟨c0, -, -⟩ := h.cells
  have c0d : w.drew.cell? ⟨b, 0, none⟩ = some pv := c0
  subst hpv
  have hw1 : IntKind.i64.wrap ((rest.length : Int) + 1 - 1) = (rest.length : Int) := by rw [IntWalk.i64_in _ (by omega)]; omega
  have hw2 : wrap64 ((rest.length : Int) + 1 - 1) = (rest.length : Int) := by unfold wrap64; omega
  have hi : (rest.length : Int) < (rest.length : Int) + 1 := by omega
  clear h
  go_enter Tryz.func69, Tryz.ntmps69
  go_wp2_with fail
  go_quiet (fail)
  go_wp2_with fail
  go_ret
  exact ⟨by simp, _, rfl⟩
end Go.Proofs.YtiejmkjpgjbodaaGreatDoor

namespace Go.Proofs.YtiejmkjpgjbodaaGreatDoor
open Go.RowKit
set_option linter.unusedVariables false
set_option linter.unusedSimpArgs false
set_option maxRecDepth 100000
structure LevV where
  h : NdH
  av : Value
  kv : Value
  lv : Value
  R : Tr
def LevV.toP (p : LevV) : NdH × Tr := (p.h, p.R)
def levVals (ps : List LevV) : List Value := ps.flatMap fun p => [.string (str p.h.name), p.av, .string (str p.h.text), p.kv, p.lv]
theorem levVals_length (ls : List LevV) : (levVals ls).length = ls.length * 5 := by
  induction ls with
  | nil => rfl
  | cons f r ih => unfold levVals at *; rw [List.flatMap_cons, List.length_append, ih]; simp; omega
theorem levVals_append (a b : List LevV) : levVals (a ++ b) = levVals a ++ levVals b := by unfold levVals; rw [List.flatMap_append]
theorem levVals_at (ps : List LevV) (p : LevV) (j : Nat) (hj : j < 5) : (levVals (ps ++ [p]))[ps.length * 5 + j]? = [Value.string (str p.h.name), p.av, .string (str p.h.text), p.kv, p.lv][j]? := by
  rw [levVals_append, List.getElem?_append_right (by rw [levVals_length]; omega), levVals_length, show ps.length * 5 + j - ps.length * 5 = j by omega]
  rfl
theorem levVals_set (ps : List LevV) (p : LevV) (u : Value) (R' : Tr) : (levVals (ps ++ [p])).set (ps.length * 5 + 4) u = levVals (ps ++ [{ p with lv := u, R := R' }]) := by
  rw [levVals_append, List.set_append_right _ _ (by rw [levVals_length]; omega), levVals_length, show ps.length * 5 + 4 - ps.length * 5 = 4 by omega, levVals_append]
  rfl
def NodeOK (B : Nat) (w : World) (p : LevV) : Prop := AttrsC (fun b => b < B) w p.av p.h.attrs ∧ ∃ K, NodesC (fun b => b < B) w p.kv K
structure LS (B : Nat) (r : Value) (st : List LevV) (W0 w : World) : Prop where
  row : w.ownsRow B 115 5 r st.length (levVals st.reverse)
  left : ∀ p ∈ st, NodesC (fun b => b < B) w p.lv p.R
  node : ∀ p ∈ st, NodeOK B w p
  below : Below B W0 w
  size : B ≤ w.heap.size
theorem same_below {B : Nat} {w w' : World} (hb : Below B w w') : ∀ g, g < B → w'.heap[g]? = w.heap[g]? := fun g hg => hb.block g hg
theorem NodeOK.below {B : Nat} {w w' : World} {p : LevV} (h : NodeOK B w p) (hb : Below B w w') : NodeOK B w' p :=
  ⟨h.1.mono (same_below hb) (fun _ x => x), h.2.imp fun K hK => hK.mono (same_below hb) (fun _ x => x)⟩
def FrL (B : Nat) (w w' : World) : Prop := Below B w w' ∧ ∀ (g : Nat) (cur : Array Value) (T : TypeId) (fz : Nat × Nat), w.heap[g]? = some (Obj.cells cur T fz) → T = 115 ∨ T = 33 → w'.heap[g]? = w.heap[g]?
theorem FrL.own {B B' : Nat} {w w' : World} (h : FrL B w w') {v : Value} {n : Nat} {xs : List Value} (ho : w.ownsRow B' 115 5 v n xs) : w'.ownsRow B' 115 5 v n xs := by
  refine ⟨ho.1, ?_⟩
  rcases ho.2 with h0 | ⟨g, cap, cur, rfl, h1, h2, h3⟩
  · exact .inl h0
  · exact .inr ⟨g, cap, cur, rfl, h1, (h.2 g _ _ _ h2 (.inl rfl)).trans h2, h3⟩
theorem LS.frame {B : Nat} {r : Value} {st : List LevV} {W0 w w' : World} (h : LS B r st W0 w) (hf : FrL B w w') : LS B r st W0 w' :=
  ⟨hf.own h.row, fun p hp => (h.left p hp).mono (same_below hf.1) (fun _ x => x), fun p hp => (h.node p hp).below hf.1, h.below.trans hf.1, Nat.le_trans h.size hf.1.size⟩
theorem FrL.kept {B : Nat} {w w' : World} (hb : Below w.heap.size w w') (hB : B ≤ w.heap.size) : FrL B w w' := ⟨hb.mono hB, fun g cur T fz hg _ => hb.block g (lt_of_block hg)⟩
theorem LS.kept {B : Nat} {r : Value} {st : List LevV} {W0 w w' : World} (h : LS B r st W0 w) (hb : Below w.heap.size w w') : LS B r st W0 w' := h.frame (FrL.kept hb h.size)
theorem LS.form {B : Nat} {r : Value} {st : List LevV} {W0 w : World} (h : LS B r st W0 w) (hs : st ≠ []) : ∃ g cap, r = .slice (some ⟨g, 0, none⟩) st.length cap ∧ st.length ≤ cap ∧ cap ≤ maxLen ∧ B ≤ g ∧ g < w.heap.size := by
  rcases h.row.2 with ⟨rfl, h0⟩ | ⟨g, cap, cur, rfl, hg, hh, hc, hm, _⟩
  · exact absurd (List.eq_nil_of_length_eq_zero h0) hs
  · exact ⟨g, cap, rfl, hc, hm, hg, lt_of_block hh⟩
theorem LS.cells {B g cap : Nat} {p : LevV} {rest : List LevV} {W0 w : World} (h : LS B (.slice (some ⟨g, 0, none⟩) (rest.length + 1) cap) (p :: rest) W0 w) :
    w.cell? ⟨g, rest.length * 5, none⟩ = some (.string (str p.h.name)) ∧ w.cell? ⟨g, rest.length * 5 + 1, none⟩ = some p.av ∧ w.cell? ⟨g, rest.length * 5 + 2, none⟩ = some (.string (str p.h.text)) ∧ w.cell? ⟨g, rest.length * 5 + 3, none⟩ = some p.kv ∧ w.cell? ⟨g, rest.length * 5 + 4, none⟩ = some p.lv ∧ (∀ i, w.frozen? ⟨g, i, none⟩ = false) := by
  have hr := h.row
  rw [List.length_cons] at hr
  have hc : ∀ j, j < 5 → w.cell? ⟨g, rest.length * 5 + j, none⟩ = [Value.string (str p.h.name), p.av, .string (str p.h.text), p.kv, p.lv][j]? := fun j hj => by
    rw [hr.cellAt _ (by omega)]
    have := levVals_at rest.reverse p j hj
    rw [List.length_reverse] at this
    rw [List.reverse_cons]; exact this
  exact ⟨hc 0 (by decide), hc 1 (by decide), hc 2 (by decide), hc 3 (by decide), hc 4 (by decide), fun i => hr.frozenAt i⟩
theorem LS.lev {B g m cap : Nat} {st : List LevV} {W0 w : World} (h : LS B (.slice (some ⟨g, 0, none⟩) m cap) st W0 w) : B ≤ g ∧ ∃ cur, w.heap[g]? = some (Obj.cells cur 115 (0, 0)) := by
  rcases h.row.2 with ⟨h0, _⟩ | ⟨g', cap', cur, h0, hg, hh, hc, hm, _⟩
  · cases h0
  · injection h0 with h0 _ _
    injection h0 with h0
    injection h0 with h0
    subst h0
    exact ⟨hg, cur, hh⟩
theorem LS.putLeft {B g cap : Nat} {p : LevV} {rest : List LevV} {W0 w : World} (h : LS B (.slice (some ⟨g, 0, none⟩) (rest.length + 1) cap) (p :: rest) W0 w) (u : Value) (R' : Tr) (hu : NodesC (fun b => b < B) w u R') :
    LS B (.slice (some ⟨g, 0, none⟩) (rest.length + 1) cap) ({ p with lv := u, R := R' } :: rest) W0 (w.setCell ⟨g, rest.length * 5 + 4, none⟩ u) ∧ w.grownBy (w.setCell ⟨g, rest.length * 5 + 4, none⟩ u) (some g) := by
  have hr := h.row
  rw [List.length_cons] at hr
  obtain ⟨r1, r2⟩ := hr.stored (rest.length * 5 + 4) u
  obtain ⟨hBg, cur, hcur⟩ := h.lev
  have hb : Below B w (w.setCell ⟨g, rest.length * 5 + 4, none⟩ u) := (Below.refl B w).setCell (p := ⟨g, rest.length * 5 + 4, none⟩) hBg u
  refine ⟨⟨?_, ?_, ?_, h.below.trans hb, Nat.le_trans h.size hb.size⟩, r2⟩
  · rw [List.reverse_cons] at r1 ⊢
    have e1 := levVals_set rest.reverse p u R'
    rw [List.length_reverse] at e1
    rw [e1] at r1
    exact r1
  · intro x hx
    rcases List.mem_cons.1 hx with rfl | hx
    · exact hu.mono (same_below hb) (fun _ x => x)
    · exact (h.left x (List.mem_cons_of_mem _ hx)).mono (same_below hb) (fun _ x => x)
  · intro x hx
    rcases List.mem_cons.1 hx with rfl | hx
    · exact NodeOK.below (h.node p (List.mem_cons_self ..)) hb
    · exact (h.node x (List.mem_cons_of_mem _ hx)).below hb
theorem LS.pop {B g cap : Nat} {p q : LevV} {rest : List LevV} {W0 w : World} (h : LS B (.slice (some ⟨g, 0, none⟩) (rest.length + 1 + 1) cap) (p :: q :: rest) W0 w) : LS B (.slice (some ⟨g, 0, none⟩) (rest.length + 1) cap) (q :: rest) W0 w := by
  refine ⟨⟨by rw [levVals_length, List.length_reverse], ?_⟩, fun x hx => h.left x (List.mem_cons_of_mem _ hx), fun x hx => h.node x (List.mem_cons_of_mem _ hx), h.below, h.size⟩
  rcases h.row.2 with ⟨h0, _⟩ | ⟨g', cap', cur, h0, hg, hh, h1, h2, h3, h4⟩
  · cases h0
  · injection h0 with e1 e2 e3
    injection e1 with e1
    injection e1 with e1
    subst e1 e3
    refine .inr ⟨g, cap, cur, rfl, hg, hh, by simp only [List.length_cons] at h1 ⊢; omega, h2, h3, ?_⟩
    have e5 := congrArg (List.take ((q :: rest).length * 5)) h4
    rw [List.take_take, Nat.min_eq_left (by simp only [List.length_cons]; omega)] at e5
    rw [e5, List.reverse_cons, levVals_append]
    have hl : (levVals (q :: rest).reverse).length = (q :: rest).length * 5 := by rw [levVals_length, List.length_reverse]
    rw [List.take_append_of_le_length (Nat.le_of_eq hl.symm), ← hl, List.take_length]
theorem LS.push {B : Nat} {r r' : Value} {st : List LevV} {W0 w w2 : World} {p : LevV} (h : LS B r st W0 w) (hp : NodesC (fun b => b < B) w p.lv p.R) (hn : NodeOK B w p)
    (ho : w2.ownsRow B 115 5 r' (st.length + 1) (levVals st.reverse ++ levVals [p])) (hg : w.grownBy w2 r.ownBlock) : LS B r' (p :: st) W0 w2 := by
  have hb : Below B w w2 := (Below.refl B w).grown hg h.size (fun k e => (h.row.lt k e).1)
  refine ⟨?_, ?_, ?_, h.below.trans hb, Nat.le_trans h.size hb.size⟩
  · rw [List.length_cons, List.reverse_cons, levVals_append]; exact ho
  · intro x hx
    rcases List.mem_cons.1 hx with rfl | hx
    · exact hp.mono (same_below hb) (fun _ x => x)
    · exact (h.left x hx).mono (same_below hb) (fun _ x => x)
  · intro x hx
    rcases List.mem_cons.1 hx with rfl | hx
    · exact hn.below hb
    · exact (h.node x hx).below hb
theorem info_level : (Tryz.prog.info? 115).map (fun i => (i.zero, i.size, i.bytes)) = some (some (.agg #[.string ByteArray.empty, .slice none 0 0, .string ByteArray.empty, .slice none 0 0, .slice none 0 0]), 5, 104) := by kernel_rfl
theorem lev_row (W : World) (c0 c1 c2 c3 c4 : Value) : (W.alloc (.cells #[c0, c1, c2, c3, c4] 115)).cell? ((⟨W.heap.size, 0, none⟩ : Addr).add 0) = some c0 ∧ (W.alloc (.cells #[c0, c1, c2, c3, c4] 115)).cell? ((⟨W.heap.size, 0, none⟩ : Addr).add 1) = some c1 ∧ (W.alloc (.cells #[c0, c1, c2, c3, c4] 115)).cell? ((⟨W.heap.size, 0, none⟩ : Addr).add 2) = some c2 ∧ (W.alloc (.cells #[c0, c1, c2, c3, c4] 115)).cell? ((⟨W.heap.size, 0, none⟩ : Addr).add 3) = some c3 ∧ (W.alloc (.cells #[c0, c1, c2, c3, c4] 115)).cell? ((⟨W.heap.size, 0, none⟩ : Addr).add 4) = some c4 := by
  have h : (W.alloc (.cells #[c0, c1, c2, c3, c4] 115)).heap[W.heap.size]? = some (.cells #[c0, c1, c2, c3, c4] 115 (0, 0)) := by
    show (W.heap.push _)[W.heap.size]? = _
    exact Array.getElem?_push_size
  exact ⟨by rw [Addr.add_lit, Lib.cell_of_heap h]; rfl, by rw [Addr.add_lit, Lib.cell_of_heap h]; rfl, by rw [Addr.add_lit, Lib.cell_of_heap h]; rfl, by rw [Addr.add_lit, Lib.cell_of_heap h]; rfl, by rw [Addr.add_lit, Lib.cell_of_heap h]; rfl⟩
theorem step_level {ops : Array Oper} {o : Oper} {a : Act} {w : World} {K : Act → World → Prop} {Q : Exit → Act → World → Prop} {E : Prop} (hgd : o.guard = none) (s x : Operand)
    (ho : o.op = .call { callee := .builtin .append, args := #[s, x], argTypes := #[116, 116] })
    (B : Nat) (v : Value) (st : List LevV) (hs : a.eval s = v) (hb : w.ownsRow B 115 5 v st.length (levVals st.reverse)) (hB : B ≤ w.heap.size) (ad : Addr) (h : NdH) (A A2 A3 : Option Addr) (m c m2 c2 m3 c3 : Nat) (R : Tr)
    (hx : a.eval x = .slice (some ad) 1 1) (h0 : w.cell? (ad.add 0) = some (.string (str h.name))) (h1 : w.cell? (ad.add 1) = some (.slice A m c)) (h2 : w.cell? (ad.add 2) = some (.string (str h.text))) (h3 : w.cell? (ad.add 3) = some (.slice A2 m2 c2)) (h4 : w.cell? (ad.add 4) = some (.slice A3 m3 c3))
    (hlen : st.length + 1 ≤ 1073741824)
    (hk : ∀ v' w', w'.ownsRow B 115 5 v' (st.length + 1) (levVals st.reverse ++ levVals [⟨h, .slice A m c, .slice A2 m2 c2, .slice A3 m3 c3, R⟩]) → w.grownBy w' v.ownBlock → K (a.put o.dst v') w') :
    if Region.wanted o (yielded ops a.tmps) = true then Oper.wp Tryz.prog o a w K Q else E := by
  have hw : Region.wanted o (yielded ops a.tmps) = true := by simp [Region.wanted, hgd]
  rw [if_pos hw]
  obtain ⟨i0, hi, hz0, hz1, hz2⟩ := info_parts info_level
  refine wp_append_own _ s x 116 ho B 115 i0 _ 5 104 Tryz.underlying116 hi hz0 hz1 hz2 rfl (by decide) v st.length (levVals st.reverse) hs hb ad 1 1 (levVals [⟨h, .slice A m c, .slice A2 m2 c2, .slice A3 m3 c3, R⟩]) hx rfl ?_ ?_ (by unfold maxLen; omega) (by omega) hB ?_
  · intro j u hj
    match j, hj with
    | 0, hj => simp [levVals] at hj; subst hj; exact h0
    | 1, hj => simp [levVals] at hj; subst hj; exact h1
    | 2, hj => simp [levVals] at hj; subst hj; exact h2
    | 3, hj => simp [levVals] at hj; subst hj; exact h3
    | 4, hj => simp [levVals] at hj; subst hj; exact h4
    | (j + 5), hj => simp [levVals] at hj
  · intro u hu
    simp [levVals] at hu
    rcases hu with rfl | rfl | rfl | rfl | rfl <;> rfl
  · intro v' w' ho' hg _
    exact hk v' w' ho' hg
end Go.Proofs.YtiejmkjpgjbodaaGreatDoor


namespace Go.Proofs.YtiejmkjpgjbodaaGreatDoor
open Go.RowKit
set_option linter.unusedVariables false
set_option linter.unusedSimpArgs false
set_option maxRecDepth 100000
theorem block_ne {w : World} {k : Nat} {c c' : Array Value} {T T' : TypeId} {z z' : Nat × Nat} (h : w.heap[k]? = some (.cells c T z)) (h' : w.heap[k]? = some (.cells c' T' z')) (hT : T ≠ T') : False := by
  rw [h] at h'
  injection h' with h'
  injection h' with _ e _
  exact hT e
theorem PgF.typed {B g j : Nat} {p : PgL} {ev lv ev' lv' : Value} {w w' : World} (hf : PgF g j ev lv ev' lv' w w') (h : PgW B g j p ev lv w) {k : Nat} {c : Array Value} {T : TypeId} {z : Nat × Nat} (hk : w.heap[k]? = some (.cells c T z)) (h1 : T ≠ 124) (h2 : T ≠ 40) (h3 : T ≠ 5) : w'.heap[k]? = some (.cells c T z) := by
  obtain ⟨cur, hc, _⟩ := h.blk
  exact (hf.far k (lt_of_block hk) (fun e => by rw [e] at hk; exact block_ne hk hc h1) (row_ne_page h.ln hk h2.symm) (row_ne_page h.bt hk h3.symm)).trans hk
theorem PgF.frl {B g j : Nat} {p : PgL} {ev lv ev' lv' : Value} {w w' : World} (hf : PgF g j ev lv ev' lv' w w') (h : PgW B g j p ev lv w) : FrL B w w' :=
  ⟨hf.below h, fun k cur T fz hk hT => (hf.typed h hk (by rcases hT with rfl | rfl <;> decide) (by rcases hT with rfl | rfl <;> decide) (by rcases hT with rfl | rfl <;> decide)).trans hk.symm⟩
theorem FrL.trans {B : Nat} {w w1 w2 : World} (h : FrL B w w1) (k : FrL B w1 w2) : FrL B w w2 :=
  ⟨h.1.trans k.1, fun g cur T fz hg hT => by
    have h1 := h.2 g cur T fz hg hT
    exact (k.2 g cur T fz (h1.trans hg) hT).trans h1⟩
theorem WrM.turned {B b g c : Nat} {bv ev' lv' : Value} {q : PgV} {rest : List PgV} {bs : List PlL} {p' : PgL} {w w' : World} (h : WrM B b (.slice (some ⟨g, 0, none⟩) (rest.length + 1) c) bv (q :: rest) bs w)
    (hw : PgW B g (rest.length * 2) q.p q.ev q.lv w) (hw' : PgW B g (rest.length * 2) p' ev' lv' w') (hf : PgF g (rest.length * 2) q.ev q.lv ev' lv' w w') : WrM B b (.slice (some ⟨g, 0, none⟩) (rest.length + 1) c) bv (⟨p', ev', lv'⟩ :: rest) bs w' := by
  have hap := List.pairwise_cons.1 h.apart
  have hblk := hf.typed hw h.blk (by decide) (by decide) (by decide)
  refine ⟨hblk, ?_, ?_, fun r hr => ?_, ?_, h.Bb⟩
  · refine ⟨by rw [pgVals_length, List.length_reverse], .inr ?_⟩
    rcases h.pgs.2 with ⟨h0, _⟩ | ⟨g', cap, cur, h0, hg, hh, hc, hm, hs, ht⟩
    · cases h0
    · injection h0 with e1 e2 e3
      injection e1 with e1
      injection e1 with e1
      subst e1 e3
      obtain ⟨cur', k1, k2, k3⟩ := hf.row cur hh
      obtain ⟨cw, kw, w0, w1⟩ := hw'.blk
      rw [k1] at kw
      injection kw with kw
      injection kw with kw _ _
      subst kw
      refine ⟨g, c, cur', rfl, hg, k1, hc, hm, k2.trans hs, ?_⟩
      apply List.ext_getElem?
      intro i
      rw [List.getElem?_take]
      have e0 : (pgVals (q :: rest).reverse)[i]? = if i < (q :: rest).length * 2 then cur.toList[i]? else none := by rw [← ht, List.getElem?_take]
      have el : (pgVals rest.reverse).length = rest.length * 2 := by rw [pgVals_length, List.length_reverse]
      show (if i < (rest.length + 1) * 2 then cur'.toList[i]? else none) = (pgVals (⟨p', ev', lv'⟩ :: rest).reverse)[i]?
      rw [List.reverse_cons, pgVals_append] at e0 ⊢
      by_cases hi : i < rest.length * 2
      · rw [if_pos (by omega), List.getElem?_append_left (by rw [el]; exact hi), Array.getElem?_toList, k3 i (by omega) (by omega)]
        rw [List.getElem?_append_left (by rw [el]; exact hi), if_pos (by simp only [List.length_cons]; omega)] at e0
        rw [e0, Array.getElem?_toList]
      · by_cases hi2 : i < (rest.length + 1) * 2
        · rw [if_pos hi2, List.getElem?_append_right (by rw [el]; omega), el, Array.getElem?_toList]
          have : i = rest.length * 2 ∨ i = rest.length * 2 + 1 := by omega
          rcases this with rfl | rfl
          · rw [w0, Nat.sub_self]; rfl
          · rw [w1, Nat.add_sub_cancel_left]; rfl
        · rw [if_neg hi2, List.getElem?_eq_none]
          rw [List.length_append, el]
          simp only [pgVals, List.flatMap_cons, List.flatMap_nil, List.append_nil, List.length_cons, List.length_nil]
          omega
  · refine row_same h.pls (fun k e => ?_)
    rcases h.pls.2 with ⟨h0, _⟩ | ⟨g', cap, cur, h0, hg, hh, _⟩
    · rw [h0] at e; cases e
    · rw [h0] at e
      injection e with e
      subst e
      exact (hf.typed hw hh (by decide) (by decide) (by decide)).trans hh.symm
  · rcases List.mem_cons.1 hr with rfl | hr
    · exact ⟨hw'.ln, hw'.bt⟩
    · obtain ⟨r1, r2⟩ := h.each r (List.mem_cons_of_mem _ hr)
      have ha := hap.1 r hr
      obtain ⟨cur, hc, _⟩ := hw.blk
      have hk : ∀ k, r.ev.ownBlock = some k ∨ r.lv.ownBlock = some k → w'.heap[k]? = w.heap[k]? := fun k e => by
        have hlt : k < w.heap.size := by
          rcases e with e | e
          · exact (World.ownsRow.lt r1 k e).2
          · exact (World.ownsRow.lt r2 k e).2
        have hg : k ≠ g := by
          rintro rfl
          rcases e with e | e
          · exact row_ne_page r1 hc (by decide) e
          · exact row_ne_page r2 hc (by decide) e
        refine hf.far k hlt hg (fun e2 => ?_) (fun e2 => ?_)
        · obtain ⟨a1, a2⟩ := ha k (.inl e2)
          rcases e with e | e
          · exact a1 e
          · exact a2 e
        · obtain ⟨a1, a2⟩ := ha k (.inr e2)
          rcases e with e | e
          · exact a1 e
          · exact a2 e
      exact ⟨row_same r1 (fun k e => hk k (.inl e)), row_same r2 (fun k e => hk k (.inr e))⟩
  · refine List.pairwise_cons.2 ⟨fun r hr => ?_, hap.2⟩
    obtain ⟨r1, r2⟩ := h.each r (List.mem_cons_of_mem _ hr)
    have ha := hap.1 r hr
    intro k hk
    have hk2 : (q.ev.ownBlock = some k ∨ q.lv.ownBlock = some k) ∨ w.heap.size ≤ k := by
      rcases hk with hk | hk
      · rcases hf.en k hk with e | e
        · exact .inl (.inl e)
        · exact .inr e
      · rcases hf.ln k hk with e | e
        · exact .inl (.inr e)
        · exact .inr e
    rcases hk2 with e | e
    · exact ha k e
    · exact ⟨fun e2 => by have := (World.ownsRow.lt r1 k e2).2; omega, fun e2 => by have := (World.ownsRow.lt r2 k e2).2; omega⟩
theorem WrM.plc {B b : Nat} {pv bv : Value} {qs : List PgV} {a : PlL} {bs : List PlL} {w : World} (h : WrM B b pv bv qs (a :: bs) w) : ∃ g c, bv = .slice (some ⟨g, 0, none⟩) (bs.length + 1) c ∧ bs.length + 1 ≤ c ∧ c ≤ maxLen ∧ w.cell? ⟨g, bs.length * 2, none⟩ = some (.int .i64 (a.1 : Int)) ∧ w.cell? ⟨g, bs.length * 2 + 1, none⟩ = some (.int .i64 (a.2 : Int)) := by
  have h1 := h.pls
  rcases h.pls.2 with ⟨_, h0⟩ | ⟨g, cap, cur, rfl, hg, hh, hc, hm, hs, ht⟩
  · cases h0
  · have ha : ∀ j, j < 2 → (plVals (a :: bs).reverse)[bs.length * 2 + j]? = [Value.int .i64 (a.1 : Int), .int .i64 (a.2 : Int)][j]? := fun j hj => by
      rw [List.reverse_cons, plVals_append, List.getElem?_append_right (by rw [plVals_length, List.length_reverse]; omega), plVals_length, List.length_reverse, show bs.length * 2 + j - bs.length * 2 = j by omega]
      rfl
    exact ⟨g, cap, rfl, by simpa using hc, hm, by rw [h1.cellAt _ (by simp only [List.length_cons]; omega)]; exact ha 0 (by decide), by rw [h1.cellAt _ (by simp only [List.length_cons]; omega)]; exact ha 1 (by decide)⟩
set_option maxHeartbeats 4000000 in
theorem endLine_any (B b : Nat) (pv bv : Value) (q : PgV) (rest : List PgV) (a : PlL) (bs : List PlL) (w : World) (h : WrM B b pv bv (q :: rest) (a :: bs) w) (hn : rest.length ≤ 1000000000) (hm : bs.length ≤ 1000000000) (hr : roomP q.p 1) :
    Calls Tryz.prog 107 #[.pointer (some ⟨b, 0, none⟩)] w fun e w' => e = .returned (.tuple #[]) ∧ ∃ ev' lv', WrM B b pv bv (⟨endLn q.p a, ev', lv'⟩ :: rest) (a :: bs) w' ∧ FrL B w w' := by
  obtain ⟨g, c, rfl, hc1, hc2, hp⟩ := h.page
  obtain ⟨gb, cb, rfl, hb1, hb2, d0, d1⟩ := h.plc
  obtain ⟨-, c1, -⟩ := h.cells
  obtain ⟨x0, x1, -, -⟩ := hp.cells
  have HI := hide (inner_any B b _ _ q rest (a :: bs) w h g c rfl hn)
  obtain ⟨Al, cl, hlv⟩ := hp.bt.form
  rw [hlv] at x1
  have HW := hide h
  have HP := hide hp
  have HR := hide hr
  have HLV := hide hlv
  by_cases hl : q.p.2 = []
  · have t1 : decide ((0 : Int) < (q.p.2.length : Int)) = false := by rw [hl]; rfl
    have hn0 : ¬ (0 < q.p.2.length) := by rw [hl]; decide
    have HE : Hid (endLn q.p a = q.p) := hide (by unfold endLn; rw [if_neg (fun e => e.1 hl)])
    clear h hp hr hl hlv
    go_enter Tryz.func107, Tryz.ntmps107
    go_wp2_with fail
    refine HI.out.mono ?_
    rintro e w1 ⟨rfl, m, rfl⟩
    have y1 : ∀ k, (w.drewN k).cell? ⟨g, rest.length * 2 + 1, none⟩ = some (.slice Al q.p.2.length cl) := fun k => x1
    go_wp2_with fail
    go_quiet (fail)
    go_wp2_with fail
    go_end0
    have hb : Below w.heap.size w ((w.drewN m).drewN nq) := ⟨rfl, rfl, rfl, Nat.le_refl _, fun _ _ => rfl⟩
    refine ⟨rfl, q.ev, q.lv, ?_, FrL.kept hb (Nat.le_trans HW.out.Bb (Nat.le_of_lt HW.out.lt))⟩
    rw [HE.out]
    exact HW.out.kept hb
  · have hpos : 0 < q.p.2.length := List.length_pos_iff.2 hl
    have t1 : decide ((0 : Int) < (q.p.2.length : Int)) = true := decide_eq_true (by omega)
    have HPL : Hid (∀ w1, Below w.heap.size w w1 → Calls Tryz.prog 108 #[.pointer (some ⟨g, rest.length * 2, none⟩)] w1 fun e w' => e = .returned (.agg #[.int .i64 ((place q.p).1 : Int), .int .i64 ((place q.p).2 : Int)]) ∧ Below w1.heap.size w1 w') := hide (fun w1 hb => place_any B g _ q.p q.ev q.lv _ (hp.kept hb))
    have hw1 : IntKind.i64.wrap ((bs.length : Int) + 1 - 1) = (bs.length : Int) := by rw [IntWalk.i64_in _ (by omega)]; omega
    have hw2 : wrap64 ((bs.length : Int) + 1 - 1) = (bs.length : Int) := by unfold wrap64; omega
    have hi : (bs.length : Int) < (bs.length : Int) + 1 := by omega
    have hi0 : (0 : Int) ≤ (bs.length : Int) := by omega
    have hi1 : (bs.length : Int) < ((bs.length + 1 : Nat) : Int) := by omega
    have hi2 : (bs.length : Int).toNat = bs.length := by omega
    have hi3 : bs.length < bs.length + 1 := by omega
    have hw3 : IntKind.i64.wrap (bs.length : Int) = (bs.length : Int) := IntWalk.i64_in _ (by omega)
    have hw4 : wrap64 (bs.length : Int) = (bs.length : Int) := by unfold wrap64; omega
    have HKP : Hid (∀ w2 w3, Below w2.heap.size w2 w3 → Below w.heap.size w w2 → Below w.heap.size w w3 ∧ w3.cell? ⟨g, rest.length * 2 + 1, none⟩ = some (.slice Al q.p.2.length cl) ∧ w3.cell? ⟨b, 1, none⟩ = some (.slice (some ⟨gb, 0, none⟩) (bs.length + 1) cb) ∧ w3.cell? ⟨gb, bs.length * 2, none⟩ = some (.int .i64 (a.1 : Int)) ∧ w3.cell? ⟨gb, bs.length * 2 + 1, none⟩ = some (.int .i64 (a.2 : Int))) := hide fun w2 w3 h3 h2 => by
      have hb := h2.trans (h3.mono h2.size)
      exact ⟨hb, (hb.cell (World.block_lt_of_cell? _ _ x1)).trans x1, (hb.cell (World.block_lt_of_cell? _ _ c1)).trans c1, (hb.cell (World.block_lt_of_cell? _ _ d0)).trans d0, (hb.cell (World.block_lt_of_cell? _ _ d1)).trans d1⟩
    obtain ⟨P1, hP1⟩ : ∃ P, P = (place q.p).1 := ⟨_, rfl⟩
    obtain ⟨P2, hP2⟩ : ∃ P, P = (place q.p).2 := ⟨_, rfl⟩
    rw [← hP1, ← hP2] at HPL
    clear h hp hr hlv
    by_cases h1 : P1 = a.1
    · by_cases h2 : P2 = a.2
      · have hpl : place q.p = a := Prod.ext (hP1.symm.trans h1) (hP2.symm.trans h2)
        have e1 : ((P1 : Int) == (a.1 : Int)) = true := by rw [h1]; exact beq_self_eq_true _
        have e2 : ((P2 : Int) == (a.2 : Int)) = true := by rw [h2]; exact beq_self_eq_true _
        clear h1 h2
        have HE : Hid (endLn q.p a = q.p) := hide (by unfold endLn; rw [if_neg (fun e => e.2 hpl)])
        clear hpl hl hP1 hP2
        go_enter Tryz.func107, Tryz.ntmps107
        go_wp2_with fail
        refine HI.out.mono ?_
        rintro e w1 ⟨rfl, hm⟩
        have hcb : Below w.heap.size w w1 := by
          obtain ⟨m, rfl⟩ := hm
          exact ⟨rfl, rfl, rfl, Nat.le_refl _, fun _ _ => rfl⟩
        obtain ⟨-, k1, k2, k3, k4⟩ := HKP.out w w1 hcb (Below.refl _ _)
        clear x0 x1 c1 d0 d1 hm
        go_wp2_with fail
        go_region_held3 (fun w' => Below w.heap.size w w' ∧ w'.cell? ⟨g, rest.length * 2 + 1, none⟩ = some (.slice Al q.p.2.length cl) ∧ w'.cell? ⟨b, 1, none⟩ = some (.slice (some ⟨gb, 0, none⟩) (bs.length + 1) cb) ∧ w'.cell? ⟨gb, bs.length * 2, none⟩ = some (.int .i64 (a.1 : Int)) ∧ w'.cell? ⟨gb, bs.length * 2 + 1, none⟩ = some (.int .i64 (a.2 : Int)))
          (refine ⟨?_, ?_, ?_, ?_, ?_⟩ <;> first | (with_reducible assumption) | (with_reducible exact Below.drew (by assumption)) | (with_reducible exact (HKP.out _ _ (by with_reducible assumption) (by first | with_reducible assumption | with_reducible exact And.left (by assumption))).1) | (with_reducible exact (HKP.out _ _ (by with_reducible assumption) (by first | with_reducible assumption | with_reducible exact And.left (by assumption))).2.1) | (with_reducible exact (HKP.out _ _ (by with_reducible assumption) (by first | with_reducible assumption | with_reducible exact And.left (by assumption))).2.2.1) | (with_reducible exact (HKP.out _ _ (by with_reducible assumption) (by first | with_reducible assumption | with_reducible exact And.left (by assumption))).2.2.2.1) | (with_reducible exact (HKP.out _ _ (by with_reducible assumption) (by first | with_reducible assumption | with_reducible exact And.left (by assumption))).2.2.2.2) | go_keep)
          (first
          | (go_at_call 108; go_must (refine (HPL.out _ (by first | with_reducible assumption | with_reducible exact And.left (by assumption))).mono ?_; rintro e w3 ⟨rfl, hb3⟩)))
        all_goals
          have hbc : Below w.heap.size w w3 := by first | with_reducible assumption | with_reducible exact And.left (by assumption)
          have HB2 := hide hbc
          clear hbc
          go_wp2_with fail
          go_end0
          refine ⟨rfl, q.ev, q.lv, ?_, FrL.kept HB2.out (Nat.le_trans HW.out.Bb (Nat.le_of_lt HW.out.lt))⟩
          rw [HE.out]
          exact HW.out.kept HB2.out
      · have hpl : place q.p ≠ a := fun e => h2 (by rw [hP2, e])
        have e1 : ((P1 : Int) == (a.1 : Int)) = true := by rw [h1]; exact beq_self_eq_true _
        have e2 : ((P2 : Int) == (a.2 : Int)) = false := by rw [beq_eq_false_iff_ne]; omega
        clear h1 h2
        have HE : Hid (putS q.p [10] = endLn q.p a) := hide (by unfold endLn; rw [if_pos ⟨hl, hpl⟩])
        clear hpl hl hP1 hP2
        go_enter Tryz.func107, Tryz.ntmps107
        go_wp2_with fail
        refine HI.out.mono ?_
        rintro e w1 ⟨rfl, hm⟩
        have hcb : Below w.heap.size w w1 := by
          obtain ⟨m, rfl⟩ := hm
          exact ⟨rfl, rfl, rfl, Nat.le_refl _, fun _ _ => rfl⟩
        obtain ⟨-, k1, k2, k3, k4⟩ := HKP.out w w1 hcb (Below.refl _ _)
        clear x0 x1 c1 d0 d1 hm
        go_wp2_with fail
        go_region_held3 (fun w' => Below w.heap.size w w' ∧ w'.cell? ⟨g, rest.length * 2 + 1, none⟩ = some (.slice Al q.p.2.length cl) ∧ w'.cell? ⟨b, 1, none⟩ = some (.slice (some ⟨gb, 0, none⟩) (bs.length + 1) cb) ∧ w'.cell? ⟨gb, bs.length * 2, none⟩ = some (.int .i64 (a.1 : Int)) ∧ w'.cell? ⟨gb, bs.length * 2 + 1, none⟩ = some (.int .i64 (a.2 : Int)))
          (refine ⟨?_, ?_, ?_, ?_, ?_⟩ <;> first | (with_reducible assumption) | (with_reducible exact Below.drew (by assumption)) | (with_reducible exact (HKP.out _ _ (by with_reducible assumption) (by first | with_reducible assumption | with_reducible exact And.left (by assumption))).1) | (with_reducible exact (HKP.out _ _ (by with_reducible assumption) (by first | with_reducible assumption | with_reducible exact And.left (by assumption))).2.1) | (with_reducible exact (HKP.out _ _ (by with_reducible assumption) (by first | with_reducible assumption | with_reducible exact And.left (by assumption))).2.2.1) | (with_reducible exact (HKP.out _ _ (by with_reducible assumption) (by first | with_reducible assumption | with_reducible exact And.left (by assumption))).2.2.2.1) | (with_reducible exact (HKP.out _ _ (by with_reducible assumption) (by first | with_reducible assumption | with_reducible exact And.left (by assumption))).2.2.2.2) | go_keep)
          (first
          | (go_at_call 108; go_must (refine (HPL.out _ (by first | with_reducible assumption | with_reducible exact And.left (by assumption))).mono ?_; rintro e w3 ⟨rfl, hb3⟩)))
        all_goals
          have hbc : Below w.heap.size w w3 := by first | with_reducible assumption | with_reducible exact And.left (by assumption)
          have HB2 := hide hbc
          clear hbc
          have HWR := hide (write_any B g (rest.length * 2) q.p q.ev q.lv ⟨#[10]⟩ w3 (HP.out.kept HB2.out) (by decide) HR.out)
          go_wp2_with fail
          refine HWR.out.mono ?_
          rintro e w4 ⟨rfl, e4, l4, hp4, hf4⟩
          rw [show putS q.p (⟨#[10]⟩ : ByteArray).data.toList = endLn q.p a from HE.out] at hp4
          have HT4 := hide ((HW.out.kept HB2.out).turned (HP.out.kept HB2.out) hp4 hf4)
          have HF4 := hide ((FrL.kept HB2.out (Nat.le_trans HW.out.Bb (Nat.le_of_lt HW.out.lt))).trans (hf4.frl (HP.out.kept HB2.out)))
          clear hp4 hf4
          go_wp2_with fail
          go_end0
          exact ⟨rfl, _, _, HT4.out, HF4.out⟩
    · have hpl : place q.p ≠ a := fun e => h1 (by rw [hP1, e])
      have e1 : ((P1 : Int) == (a.1 : Int)) = false := by rw [beq_eq_false_iff_ne]; omega
      clear h1
      have HE : Hid (putS q.p [10] = endLn q.p a) := hide (by unfold endLn; rw [if_pos ⟨hl, hpl⟩])
      clear hpl hl hP1 hP2
      go_enter Tryz.func107, Tryz.ntmps107
      go_wp2_with fail
      refine HI.out.mono ?_
      rintro e w1 ⟨rfl, hm⟩
      have hcb : Below w.heap.size w w1 := by
        obtain ⟨m, rfl⟩ := hm
        exact ⟨rfl, rfl, rfl, Nat.le_refl _, fun _ _ => rfl⟩
      obtain ⟨-, k1, k2, k3, k4⟩ := HKP.out w w1 hcb (Below.refl _ _)
      clear x0 x1 c1 d0 d1 hm
      go_wp2_with fail
      go_region_held3 (fun w' => Below w.heap.size w w' ∧ w'.cell? ⟨g, rest.length * 2 + 1, none⟩ = some (.slice Al q.p.2.length cl) ∧ w'.cell? ⟨b, 1, none⟩ = some (.slice (some ⟨gb, 0, none⟩) (bs.length + 1) cb) ∧ w'.cell? ⟨gb, bs.length * 2, none⟩ = some (.int .i64 (a.1 : Int)) ∧ w'.cell? ⟨gb, bs.length * 2 + 1, none⟩ = some (.int .i64 (a.2 : Int)))
        (refine ⟨?_, ?_, ?_, ?_, ?_⟩ <;> first | (with_reducible assumption) | (with_reducible exact Below.drew (by assumption)) | (with_reducible exact (HKP.out _ _ (by with_reducible assumption) (by first | with_reducible assumption | with_reducible exact And.left (by assumption))).1) | (with_reducible exact (HKP.out _ _ (by with_reducible assumption) (by first | with_reducible assumption | with_reducible exact And.left (by assumption))).2.1) | (with_reducible exact (HKP.out _ _ (by with_reducible assumption) (by first | with_reducible assumption | with_reducible exact And.left (by assumption))).2.2.1) | (with_reducible exact (HKP.out _ _ (by with_reducible assumption) (by first | with_reducible assumption | with_reducible exact And.left (by assumption))).2.2.2.1) | (with_reducible exact (HKP.out _ _ (by with_reducible assumption) (by first | with_reducible assumption | with_reducible exact And.left (by assumption))).2.2.2.2) | go_keep)
        (first
        | (go_at_call 108; go_must (refine (HPL.out _ (by first | with_reducible assumption | with_reducible exact And.left (by assumption))).mono ?_; rintro e w3 ⟨rfl, hb3⟩)))
      all_goals
        have hbc : Below w.heap.size w w3 := by first | with_reducible assumption | with_reducible exact And.left (by assumption)
        have HB2 := hide hbc
        clear hbc
        have HWR := hide (write_any B g (rest.length * 2) q.p q.ev q.lv ⟨#[10]⟩ w3 (HP.out.kept HB2.out) (by decide) HR.out)
        go_wp2_with fail
        refine HWR.out.mono ?_
        rintro e w4 ⟨rfl, e4, l4, hp4, hf4⟩
        rw [show putS q.p (⟨#[10]⟩ : ByteArray).data.toList = endLn q.p a from HE.out] at hp4
        have HT4 := hide ((HW.out.kept HB2.out).turned (HP.out.kept HB2.out) hp4 hf4)
        have HF4 := hide ((FrL.kept HB2.out (Nat.le_trans HW.out.Bb (Nat.le_of_lt HW.out.lt))).trans (hf4.frl (HP.out.kept HB2.out)))
        clear hp4 hf4
        go_wp2_with fail
        go_end0
        exact ⟨rfl, _, _, HT4.out, HF4.out⟩
end Go.Proofs.YtiejmkjpgjbodaaGreatDoor

namespace Go.Proofs.YtiejmkjpgjbodaaGreatDoor
open Go.RowKit
set_option linter.unusedVariables false
set_option linter.unusedSimpArgs false
set_option maxRecDepth 100000
def ndV (h : NdH) (av kv : Value) : Value := .agg #[.string (str h.name), av, .string (str h.text), kv]
def BegOK {σ : Type} (B Kb : Nat) (cb : Array Value) (Inv : σ → World → Prop) (bg : σ → NdH → Tr → σ) (dv : NdH → Bool) (μ : σ → Nat) (M : Nat) (G : NdH → Tr → Prop) : Prop :=
  ∀ (s : σ) (w : World) (h : NdH) (K : Tr) (av : Value) (A : Option Addr) (m c : Nat), Inv s w → B ≤ w.heap.size → G h K → AttrsC (fun b => b < B) w av h.attrs → NodesC (fun b => b < B) w (.slice A m c) K → μ (bg s h K) ≤ M →
    Calls Tryz.prog Kb (#[ndV h av (.slice A m c)] ++ cb) w fun e w' => e = .returned (if dv h = true then .slice A m c else .slice none 0 0) ∧ Inv (bg s h K) w' ∧ FrL B w w'
def EndOK {σ : Type} (B Ke : Nat) (ce : Array Value) (Inv : σ → World → Prop) (en : σ → NdH → σ) (μ : σ → Nat) (M : Nat) : Prop :=
  ∀ (s : σ) (w : World) (h : NdH) (K : Tr) (av kv : Value), Inv s w → B ≤ w.heap.size → AttrsC (fun b => b < B) w av h.attrs → NodesC (fun b => b < B) w kv K → μ (en s h) ≤ M →
    Calls Tryz.prog Ke (#[ndV h av kv] ++ ce) w fun e w' => e = .returned (.tuple #[]) ∧ Inv (en s h) w' ∧ FrL B w w'
def InvOK {σ : Type} (B : Nat) (Inv : σ → World → Prop) : Prop :=
  ∀ (s : σ) (w w' : World) (row : Option Nat), Inv s w → w.grownBy w' row → (∀ k, row = some k → B ≤ k ∧ ∃ cur, w.heap[k]? = some (Obj.cells cur 115 (0, 0))) → Inv s w'
def GoneS {σ : Type} (B : Nat) (Inv : σ → World → Prop) (bg : σ → NdH → Tr → σ) (en : σ → NdH → σ) (dv : NdH → Bool) (G : NdH → Tr → Prop) (F : σ) (gk : Nat) (r : Value) (W0 w : World) : Prop :=
  ∃ (st : List LevV) (s : σ), st ≠ [] ∧ LS B r st W0 w ∧ Inv s w ∧ unw bg en dv (st.map LevV.toP) s = F ∧ stepsW (st.map LevV.toP) ≤ gk ∧ gk ≤ 4000000 ∧ ∀ p ∈ st, p.R.ev G
theorem pushedL {σ : Type} {B : Nat} {Inv : σ → World → Prop} (hinv : InvOK B Inv) {g m cap : Nat} {st : List LevV} {w wr w3 w5 : World} {v' : Value} {s : σ} {q : LevV} {ob : Obj} {K : Tr} (hl : LS B (.slice (some ⟨g, 0, none⟩) m cap) st w w3) (hi : Inv s w3) (hbb : Below B wr w3)
    (h1 : NodesC (fun b => b < B) wr q.lv q.R) (h2 : AttrsC (fun b => b < B) wr q.av q.h.attrs) (h3 : NodesC (fun b => b < B) wr q.kv K) (ho : w5.ownsRow B 115 5 v' (st.length + 1) (levVals st.reverse ++ levVals [q])) (hg : (w3.alloc ob).grownBy w5 (Value.slice (some ⟨g, 0, none⟩) m cap).ownBlock) :
    LS B v' (q :: st) w w5 ∧ Inv s w5 := by
  have hbo := below_one w3 ob
  have hl4 := hl.kept hbo
  have hb4 : Below B wr (w3.alloc ob) := hbb.trans (hbo.mono hl.size)
  refine ⟨hl4.push (h1.mono (same_below hb4) (fun _ x => x)) ⟨h2.mono (same_below hb4) (fun _ x => x), K, h3.mono (same_below hb4) (fun _ x => x)⟩ ho hg, ?_⟩
  refine hinv s _ w5 _ (hinv s w3 _ none hi (World.grownBy_alloc w3 _ none) (fun k e => by cases e)) hg (fun k e => ?_)
  obtain rfl : g = k := by simpa [Value.ownBlock] using e
  exact hl4.lev
set_option maxHeartbeats 32000000 in
theorem walk_gen {σ : Type} (B Kb Ke : Nat) (cb ce : Array Value) (hKb : ∀ args w, (callFunc Kb args).run Tryz.prog w = .ok (.enter Kb args) w) (hKe : ∀ args w, (callFunc Ke args).run Tryz.prog w = .ok (.enter Ke args) w)
    (Inv : σ → World → Prop) (bg : σ → NdH → Tr → σ) (en : σ → NdH → σ) (dv : NdH → Bool) (μ : σ → Nat) (M : Nat) (G : NdH → Tr → Prop) (hmb : ∀ s h K, μ s ≤ μ (bg s h K)) (hme : ∀ s h, μ s ≤ μ (en s h))
    (hinv : InvOK B Inv) (hbeg : BegOK B Kb cb Inv bg dv μ M G) (hend : EndOK B Ke ce Inv en μ M)
    (v : Value) (T : Tr) (s0 : σ) (w : World) (hT : NodesC (fun b => b < B) w v T) (hG : T.ev G) (hc : T.count ≤ 1000000) (hM : μ (vis bg en dv T s0) ≤ M) (h0 : Inv s0 w) (hB : B ≤ w.heap.size) :
    Calls Tryz.prog 49 #[v, .func (.func Kb) #[] cb, .func (.func Ke) #[] ce] w fun e w' => e = .returned (.tuple #[]) ∧ Inv (vis bg en dv T s0) w' ∧ Below B w w' := by
  obtain ⟨F, hF⟩ : ∃ F, F = vis bg en dv T s0 := ⟨_, rfl⟩
  rw [← hF] at hM ⊢
  obtain ⟨VA, VC, hv⟩ := hT.form
  have hls : LS B (.slice (some ⟨w.heap.size, 0, none⟩) 1 1) [⟨⟨[], [], []⟩, .slice none 0 0, .slice none 0 0, v, T⟩] w (w.alloc (.cells #[.string ⟨#[]⟩, .slice none 0 0, .string ⟨#[]⟩, .slice none 0 0, v] 115)) := by
    have hb := (below_one w (Obj.cells #[.string ⟨#[]⟩, .slice none 0 0, .string ⟨#[]⟩, .slice none 0 0, v] 115)).mono hB
    refine ⟨World.ownsRow_lit (base := B) (e := 115) (size := 5) w #[.string ⟨#[]⟩, .slice none 0 0, .string ⟨#[]⟩, .slice none 0 0, v] 1 hB (by decide) rfl, fun p hp => ?_, fun p hp => ?_, hb, Nat.le_trans hB hb.size⟩
    · obtain rfl := List.mem_singleton.1 hp
      exact hT.mono (same_below hb) (fun _ x => x)
    · obtain rfl := List.mem_singleton.1 hp
      exact ⟨⟨.inl ⟨rfl, rfl⟩, fun a n c e => (by cases e)⟩, .nil, .inl ⟨rfl, rfl⟩⟩
  have hinv0 : Inv s0 (w.alloc (.cells #[.string ⟨#[]⟩, .slice none 0 0, .string ⟨#[]⟩, .slice none 0 0, v] 115)) := hinv s0 w _ none h0 (World.grownBy_alloc w _ none) (fun k e => by cases e)
  have HS : Hid (GoneS B Inv bg en dv G F (2 * T.count + 1) (.slice (some ⟨w.heap.size, 0, none⟩) 1 1) w (w.alloc (.cells #[.string ⟨#[]⟩, .slice none 0 0, .string ⟨#[]⟩, .slice none 0 0, v] 115))) :=
    hide ⟨_, s0, by simp, hls, hinv0, hF.symm, by simp [stepsW, LevV.toP], by omega, fun p hp => by obtain rfl := List.mem_singleton.1 hp; exact hG⟩
  have HINV := hide hinv
  have HBEG := hide hbeg
  have HEND := hide hend
  have HM := hide hM
  have HKB := hide hKb
  have HKE := hide hKe
  have HMB := hide (And.intro hmb hme)
  subst hv
  clear hinv hbeg hend hM hT hG hc h0 hF hls hinv0 hmb hme
  go_enter Tryz.func49, Tryz.ntmps49
  go_wp2_with fail
  go_loopg [6, 7, 8] (2 * T.count + 1) (fun gk r u7 u8 wr => Hid (GoneS B Inv bg en dv G F gk r w wr))
  case atStart => exact HS.out
  case round =>
    obtain ⟨st, s, hne, hl, hi, hu, hstep, hbig, hev⟩ := hrel.out
    match st, hne with
    | p :: rest, _ =>
    obtain ⟨g, cap, rfl, i1, i2, i3, i4⟩ := hl.form (by simp)
    have hl2 : LS B (.slice (some ⟨g, 0, none⟩) (rest.length + 1) cap) (p :: rest) w wr := hl
    have hlen : rest.length ≤ 4000000 := by
      have h1 := steps_len ((p :: rest).map LevV.toP)
      simp only [List.length_map, List.length_cons] at h1
      omega
    obtain ⟨e0, e1, e2, e3, e4, ef⟩ := hl2.cells
    have tn1 : wrap64 ((rest.length : Int) + 1 - 1) = (rest.length : Int) := by unfold wrap64; omega
    have tn5 : (rest.length : Int) < (rest.length : Int) + 1 := by omega
    have HI := hide hi
    have HCP := hide (And.intro i1 i2)
    have HEV := hide hev
    have hleft := hl2.left p (List.mem_cons_self ..)
    have HL := hide hl2
    have HHB := hide hbig
    have HST := hide hstep
    have HLN := hide hlen
    obtain ⟨AA, AC, hav⟩ := (hl2.node p (List.mem_cons_self ..)).1.1.form
    obtain ⟨KK, hKK⟩ := (hl2.node p (List.mem_cons_self ..)).2
    obtain ⟨KA, KC, hkv⟩ := hKK.form
    have HKK := hide hKK
    have HAV := hide hav
    have HKV := hide hkv
    rw [hav] at e1
    rw [hkv] at e3
    obtain ⟨LA, LC, hlv⟩ := hleft.form
    have HLV := hide hlv
    rw [hlv] at e4
    have hlv' := hlv
    clear hl hl2 hi i1 i2 i3 i4 hev hbig hstep hne hrel hKK hav hkv hlv hlen
    cases hR : p.R with
    | nil =>
      rw [hR] at e4
      have e4' : wr.cell? ⟨g, rest.length * 5 + 4, none⟩ = some (.slice LA 0 LC) := e4
      clear e4
      match rest, hu, HL, HI, HEV, HST, HLN, e0, e1, e2, e3, e4', tn1, tn5, HCP with
      | [], hu, HL, HI, HEV, HST, HLN, e0, e1, e2, e3, e4', tn1, tn5, HCP =>
        have hFs : s = F := by
          rw [← hu]
          show s = vis bg en dv p.R s
          rw [hR]; rfl
        have HE : Hid (Inv F wr ∧ Below B w wr) := hide ⟨by rw [← hFs]; exact HI.out, HL.out.below⟩
        clear hu hFs hR hleft
        simp only [List.length_nil, Nat.zero_mul, Nat.zero_add] at e0 e1 e2 e3 e4'
        clear tn1 tn5
        go_wp2_with fail
        try simp only [Exit.inBlock, Exit.then]
        refine bodyPost_ret (results_none rfl _ _ _) rfl ?_
        exact ⟨rfl, HE.out⟩
      | q :: rest, hu, HL, HI, HEV, HST, HLN, e0, e1, e2, e3, e4', tn1, tn5, HCP =>
        have hu2 : unw bg en dv ((q :: rest).map LevV.toP) (en s p.h) = F := by
          rw [← hu]
          show _ = unw bg en dv ((p.h, p.R) :: q.toP :: rest.map LevV.toP) s
          rw [hR]; rfl
        have hM2 : μ (en s p.h) ≤ M := Nat.le_trans (unw_mono bg en dv μ HMB.out.1 HMB.out.2 ((q :: rest).map LevV.toP) (en s p.h)) (by rw [hu2]; exact HM.out)
        have hen := HEND.out s wr p.h KK (.slice AA p.h.attrs.length AC) (.slice KA KK.len KC) HI.out HL.out.size (by rw [← HAV.out]; exact (HL.out.node p (List.mem_cons_self ..)).1) (by rw [← HKV.out]; exact HKK.out) hM2
        unfold ndV at hen
        have HEN := hide hen
        have HU2 := hide hu2
        obtain ⟨X0, hX0⟩ : ∃ X, X = str p.h.name := ⟨_, rfl⟩
        obtain ⟨X1, hX1⟩ : ∃ X, X = str p.h.text := ⟨_, rfl⟩
        simp only [List.length_cons] at e0 e1 e2 e3 e4' tn1 tn5
        rw [← hX0] at e0 HEN
        rw [← hX1] at e2 HEN
        have t8 : decide ((1 : Int) < (rest.length : Int) + 1 + 1) = true := decide_eq_true (by omega)
        have hln : rest.length + 1 ≤ 4000000 := by have := HLN.out; simp only [List.length_cons] at this; exact this
        clear hu hu2 hM2 hen hleft hR hX0 hX1 tn1 tn5
        have hsl1 : (0 : Int) ≤ (rest.length : Int) + 1 := by omega
        have hsl2 : (rest.length : Int) + 1 ≤ (cap : Int) := by have := HCP.out.1; simp only [List.length_cons] at this; omega
        have hsl3 : ((rest.length : Int) + 1).toNat = rest.length + 1 := by omega
        go_wp2_with fail
        refine HEN.out.mono ?_
        rintro e w1 ⟨rfl, hi1, hf1⟩
        have HI1 := hide hi1
        have HF1 := hide hf1
        clear hi1 hf1 e0 e1 e2 e3 e4'
        go_wp2_with fail
        cases gk with
        | zero => exact absurd HST.out (by simp only [List.map_cons, stepsW]; omega)
        | succ gk =>
        go_roundg gk
        case rel =>
          refine hide ⟨q :: rest, en s p.h, by simp, (LS.frame HL.out HF1.out).pop, HI1.out, HU2.out, ?_, by have := HHB.out; omega, fun x hx => HEV.out x (List.mem_cons_of_mem _ hx)⟩
          have h1 := HST.out
          simp only [List.map_cons, stepsW] at h1 ⊢
          omega
        case measure => omega
    | cons h K R =>
      rw [hR] at e4 hleft
      rw [hlv'] at hleft
      have hcapL := hleft.cap
      have HLVC := hide hcapL.2.2
      obtain ⟨a, rfl, hat, hcl⟩ : ∃ a, LA = some a ∧ NodesAt (fun b => b < B) wr (.cons h K R) a ∧ R.len + 1 ≤ LC := by
        rcases hleft with ⟨h1, h2⟩ | ⟨a, cp, h1, h2, h3, h4⟩
        · cases h2
        · injection h1 with e5 e6 e7
          subst e7
          exact ⟨a, e5, h4, h2⟩
      obtain ⟨n0, n1, n2, ⟨uA, n3, n4⟩, ⟨uK, n5, n6⟩, n7⟩ := hat
      obtain ⟨NA, NC, rfl⟩ := n4.1.form
      have n6' : NodesC (fun b => b < B) wr uK K := n6
      obtain ⟨MA, MC, rfl⟩ := n6'.form
      have hnl : ∀ ad : Addr, ({ block := a.block, off := a.off + 1 } : Addr) = a.add 1 ∧ ({ block := a.block, off := a.off + 2 } : Addr) = a.add 2 ∧ ({ block := a.block, off := a.off + 3 } : Addr) = a.add 3 := fun _ => ⟨rfl, rfl, rfl⟩
      have m1 : wr.cell? { block := a.block, off := a.off + 1 } = some (.slice NA h.attrs.length NC) := n3
      have m2 : wr.cell? { block := a.block, off := a.off + 2 } = some (.string (str h.text)) := n2
      have m3 : wr.cell? { block := a.block, off := a.off + 3 } = some (.slice MA K.len MC) := n5
      obtain ⟨X0, hX0⟩ : ∃ X, X = str h.name := ⟨_, rfl⟩
      obtain ⟨X1, hX1⟩ : ∃ X, X = str h.text := ⟨_, rfl⟩
      rw [← hX0] at n1
      rw [← hX1] at m2
      have HX := hide (And.intro hX0 hX1)
      have HNA := hide n4
      have HNK := hide n6'
      have hLg : g ≠ wr.heap.size := by
        have := World.block_lt_of_cell? _ _ e4
        exact Nat.ne_of_lt this
      have t4 : decide ((0 : Int) < (R.len : Int) + 1) = true := decide_eq_true (by omega)
      have e4' : wr.cell? ⟨g, rest.length * 5 + 4, none⟩ = some (.slice (some a) (R.len + 1) LC) := e4
      have hln : rest.length ≤ 4000000 := HLN.out
      have hrln : R.len ≤ 4000000 := by
        have h1 := HST.out
        have h2 := HHB.out
        simp only [List.map_cons, stepsW] at h1
        rw [show p.toP.2 = p.R from rfl, hR] at h1
        simp only [Tr.count] at h1
        have h3 := Tr.len_count R
        omega
      have hst2 : stepsW ((h, inner dv h K) :: (p.h, R) :: rest.map LevV.toP) + 1 ≤ gk := by
        have h1 := HST.out
        simp only [List.map_cons, stepsW] at h1
        rw [show p.toP.2 = p.R from rfl, hR] at h1
        simp only [Tr.count] at h1
        simp only [stepsW]
        have := inner_count dv h K
        omega
      have hu2 : unw bg en dv ((h, inner dv h K) :: (p.h, R) :: rest.map LevV.toP) (bg s h K) = F := by
        rw [← unw_visit, ← hu]
        show _ = unw bg en dv ((p.h, p.R) :: rest.map LevV.toP) s
        rw [hR]
      have hM2 : μ (bg s h K) ≤ M := Nat.le_trans (unw_mono bg en dv μ HMB.out.1 HMB.out.2 _ (bg s h K)) (by rw [hu2]; exact HM.out)
      obtain ⟨hGk, hGK, hGR⟩ : G h K ∧ K.ev G ∧ R.ev G := by
        have := HEV.out p (List.mem_cons_self ..)
        rw [hR] at this
        exact this
      have HU2 := hide hu2
      have HS2 := hide hst2
      have HM2 := hide hM2
      have HGG := hide (And.intro hGk (And.intro hGK hGR))
      clear hu hu2 hst2 hM2 hGk hGK hGR hR
      have e4a : ∀ ob, (wr.alloc ob).cell? ⟨g, rest.length * 5 + 4, none⟩ = some (.slice (some a) (R.len + 1) LC) := fun ob => ((below_one wr ob).cell (World.block_lt_of_cell? _ _ e4')).trans e4'
      have efa : ∀ ob i, (wr.alloc ob).frozen? ⟨g, i, none⟩ = false := fun ob i => ((below_one wr ob).frozen (p := ⟨g, i, none⟩) (show g < wr.heap.size from World.block_lt_of_cell? _ _ e4')).trans (ef i)
      clear e4 e0 e1 e2 e3 tn1 n0 n2 n3 n4 n5 n6 n6' hX0 hX1 hnl
      -- the node's box, and what is left
      have hbk := below_one wr (Obj.cells #[.string X0, .slice NA h.attrs.length NC, .string X1, .slice MA K.len MC] 33)
      have HL2 : Hid (∀ u, NodesC (fun b => b < B) wr u R → LS B (.slice (some ⟨g, 0, none⟩) (rest.length + 1) cap) ({ p with lv := u, R := R } :: rest) w ((wr.alloc (Obj.cells #[.string X0, .slice NA h.attrs.length NC, .string X1, .slice MA K.len MC] 33)).setCell ⟨g, rest.length * 5 + 4, none⟩ u) ∧ Inv s ((wr.alloc (Obj.cells #[.string X0, .slice NA h.attrs.length NC, .string X1, .slice MA K.len MC] 33)).setCell ⟨g, rest.length * 5 + 4, none⟩ u)) := hide fun u hu => by
        have hl3 := HL.out.kept hbk
        obtain ⟨k1, k2⟩ := hl3.putLeft u R (hu.mono (same_below (hbk.mono HL.out.size)) (fun _ x => x))
        refine ⟨k1, HINV.out s _ _ (some g) (HINV.out s wr _ none HI.out (World.grownBy_alloc wr _ none) (fun k e => by cases e)) k2 (fun k e => ?_)⟩
        injection e with e
        subst e
        exact hl3.lev
      have HBX : Hid (∀ u, ((wr.alloc (Obj.cells #[.string X0, .slice NA h.attrs.length NC, .string X1, .slice MA K.len MC] 33)).setCell ⟨g, rest.length * 5 + 4, none⟩ u).heap[wr.heap.size]? = some (Obj.cells #[.string X0, .slice NA h.attrs.length NC, .string X1, .slice MA K.len MC] 33 (0, 0))) := hide fun u =>
        (Below.heap_setCell _ ⟨g, rest.length * 5 + 4, none⟩ u wr.heap.size (fun e => hLg e.symm)).trans (heap_alloc_new wr _)
      have HBW : Hid (∀ u, Below B wr ((wr.alloc (Obj.cells #[.string X0, .slice NA h.attrs.length NC, .string X1, .slice MA K.len MC] 33)).setCell ⟨g, rest.length * 5 + 4, none⟩ u)) := hide fun u => (hbk.mono HL.out.size).setCell (p := ⟨g, rest.length * 5 + 4, none⟩) HL.out.lev.1 u
      obtain ⟨IA, IM, IC, hI1, hI2⟩ : ∃ A m c, (if dv h = true then Value.slice MA K.len MC else .slice none 0 0) = .slice A m c ∧ NodesC (fun b => b < B) wr (.slice A m c) (inner dv h K) := by
        unfold inner
        split
        · exact ⟨_, _, _, rfl, HNK.out⟩
        · exact ⟨_, _, _, rfl, .inl ⟨rfl, rfl⟩⟩
      have HI1 := hide hI1
      have HI2 := hide hI2
      have HN7 := hide n7
      have HC1 := hide hcl
      clear hbk hI1 hI2 n7 hcl hLg hleft hcapL
      by_cases hc1 : LC = 1
      · have hu : NodesC (fun b => b < B) wr (.slice (some a) 0 0) R := by
          cases R with
          | nil => exact .inr ⟨a, 0, rfl, Nat.le_refl _, Nat.zero_le _, trivial⟩
          | cons h' K' R' => have := HC1.out; simp only [Tr.len] at this; omega
        have hr0 : R.len = 0 := by have := HC1.out; omega
        have HUU := hide hu
        clear hu
        subst hc1
        go_wp2_with fail
        obtain ⟨hls2, hinv2⟩ := HL2.out (.slice (some a) 0 0) HUU.out
        have hbx2 := HBX.out (.slice (some a) 0 0)
        have hbw2 := HBW.out (.slice (some a) 0 0)
        clear e4a efa e4' n1 m1 m2 m3 t4
        generalize ((wr.alloc (Obj.cells #[.string X0, .slice NA h.attrs.length NC, .string X1, .slice MA K.len MC] 33)).setCell ⟨g, rest.length * 5 + 4, none⟩ (.slice (some a) 0 0)) = W2 at hls2 hinv2 hbx2 hbw2 ⊢
        have y0 : W2.cell? ⟨wr.heap.size, 0, none⟩ = some (.string X0) := by rw [Lib.cell_of_heap hbx2]; rfl
        have y1 : W2.cell? ⟨wr.heap.size, 1, none⟩ = some (.slice NA h.attrs.length NC) := by rw [Lib.cell_of_heap hbx2]; rfl
        have y2 : W2.cell? ⟨wr.heap.size, 2, none⟩ = some (.string X1) := by rw [Lib.cell_of_heap hbx2]; rfl
        have y3 : W2.cell? ⟨wr.heap.size, 3, none⟩ = some (.slice MA K.len MC) := by rw [Lib.cell_of_heap hbx2]; rfl
        have hbd : Below B wr W2.drew := hbw2.drew
        have hcall := HBEG.out s W2.drew h K (.slice NA h.attrs.length NC) MA K.len MC (HINV.out s W2 W2.drew none hinv2 ⟨rfl, rfl, rfl, Nat.le_refl _, fun _ _ _ => rfl⟩ (fun k e => by cases e)) hls2.size HGG.out.1 (HNA.out.mono (same_below hbd) (fun _ x => x)) (HNK.out.mono (same_below hbd) (fun _ x => x)) HM2.out
        unfold ndV at hcall
        rw [← HX.out.1, ← HX.out.2, HI1.out] at hcall
        have HCALL := hide hcall
        have HLS2 := hide (hls2.kept (w' := W2.drew) (Below.refl _ _).drew)
        have HBX2 := hide hbx2
        have HBD := hide hbd
        clear hcall hls2 hinv2 hbx2 hbw2 hbd
        go_region_law (first
          | (refine step_level rfl _ _ rfl B (.slice (some ⟨g, 0, none⟩) (rest.length + 1) cap) ({ p with lv := .slice (some a) 0 0, R := R } :: rest) rfl ?_ ?_ ⟨w3.heap.size, 0, none⟩ h NA MA IA h.attrs.length NC K.len MC IM IC (inner dv h K) rfl ((lev_row _ _ _ _ _ _).1.trans (by rw [HX.out.1])) (lev_row _ _ _ _ _ _).2.1 ((lev_row _ _ _ _ _ _).2.2.1.trans (by rw [HX.out.2])) (lev_row _ _ _ _ _ _).2.2.2.1 (lev_row _ _ _ _ _ _).2.2.2.2 (by have := HLN.out; simp only [List.length_cons]; omega) ?_
             · exact (HL3.out.kept (below_one w3 _)).row
             · exact Nat.le_trans HL3.out.size (below_one w3 _).size
             intro v' w5 ho2 hg2
             obtain ⟨hl5, hi5⟩ := pushedL (q := ⟨h, .slice NA h.attrs.length NC, .slice MA K.len MC, .slice IA IM IC, inner dv h K⟩) (K := K) HINV.out HL3.out HI3.out HB3.out HI2.out HNA.out HNK.out ho2 hg2
             obtain ⟨ao, n', c', rfl⟩ : ∃ ao n' c', v' = .slice ao n' c' := by
               rcases ho2.2 with ⟨hv, _⟩ | ⟨g0, c0, cur, hv, _⟩
               · exact ⟨_, _, _, hv⟩
               · exact ⟨_, _, _, hv⟩
             have HL5 := hide hl5
             have HI5 := hide hi5
             clear ho2 hg2 hl5 hi5)
          | (go_simp; (with_reducible refine HCALL.out.mono ?_); rintro e w3 ⟨rfl, hi3, hf3⟩; have hb3 := (hf3.2 wr.heap.size _ _ _ HBX2.out (.inr rfl)).trans HBX2.out; have z0 : w3.cell? ⟨wr.heap.size, 0, none⟩ = some (.string X0) := (Lib.cell_of_heap hb3 0).trans rfl; have z1 : w3.cell? ⟨wr.heap.size, 1, none⟩ = some (.slice NA h.attrs.length NC) := (Lib.cell_of_heap hb3 1).trans rfl; have z2 : w3.cell? ⟨wr.heap.size, 2, none⟩ = some (.string X1) := (Lib.cell_of_heap hb3 2).trans rfl; have z3 : w3.cell? ⟨wr.heap.size, 3, none⟩ = some (.slice MA K.len MC) := (Lib.cell_of_heap hb3 3).trans rfl; have HI3 := hide hi3; have HL3 := hide (HLS2.out.frame hf3); have HB3 := hide (HBD.out.trans hf3.1); clear hi3 hf3 hb3))
        all_goals
          go_wp2_with fail
          cases gk with
          | zero => exact absurd HS2.out (Nat.not_succ_le_zero _)
          | succ gk =>
          go_roundg gk
          case rel =>
            refine hide ⟨_, bg s h K, by simp, HL5.out, HI5.out, HU2.out, Nat.le_of_succ_le_succ HS2.out, by have := HHB.out; omega, fun x hx => ?_⟩
            rcases List.mem_cons.1 hx with rfl | hx
            · exact inner_ev dv HGG.out.2.1
            · rcases List.mem_cons.1 hx with rfl | hx
              · exact HGG.out.2.2
              · exact HEV.out x (List.mem_cons_of_mem _ hx)
          case measure => omega
      · have hu : NodesC (fun b => b < B) wr (.slice (some { block := a.block, off := a.off + 4 }) R.len (LC - 1)) R := .inr ⟨a.add 4, LC - 1, rfl, by have := HC1.out; omega, by have := HCP.out.2; have := HLVC.out; omega, HN7.out⟩
        have HUU := hide hu
        clear hu
        go_wp2_with fail
        obtain ⟨hls2, hinv2⟩ := HL2.out (.slice (some { block := a.block, off := a.off + 4 }) R.len (LC - 1)) HUU.out
        have hbx2 := HBX.out (.slice (some { block := a.block, off := a.off + 4 }) R.len (LC - 1))
        have hbw2 := HBW.out (.slice (some { block := a.block, off := a.off + 4 }) R.len (LC - 1))
        clear e4a efa e4' n1 m1 m2 m3 t4
        generalize ((wr.alloc (Obj.cells #[.string X0, .slice NA h.attrs.length NC, .string X1, .slice MA K.len MC] 33)).setCell ⟨g, rest.length * 5 + 4, none⟩ (.slice (some { block := a.block, off := a.off + 4 }) R.len (LC - 1))) = W2 at hls2 hinv2 hbx2 hbw2 ⊢
        have y0 : W2.cell? ⟨wr.heap.size, 0, none⟩ = some (.string X0) := by rw [Lib.cell_of_heap hbx2]; rfl
        have y1 : W2.cell? ⟨wr.heap.size, 1, none⟩ = some (.slice NA h.attrs.length NC) := by rw [Lib.cell_of_heap hbx2]; rfl
        have y2 : W2.cell? ⟨wr.heap.size, 2, none⟩ = some (.string X1) := by rw [Lib.cell_of_heap hbx2]; rfl
        have y3 : W2.cell? ⟨wr.heap.size, 3, none⟩ = some (.slice MA K.len MC) := by rw [Lib.cell_of_heap hbx2]; rfl
        have hbd : Below B wr W2.drew := hbw2.drew
        have hcall := HBEG.out s W2.drew h K (.slice NA h.attrs.length NC) MA K.len MC (HINV.out s W2 W2.drew none hinv2 ⟨rfl, rfl, rfl, Nat.le_refl _, fun _ _ _ => rfl⟩ (fun k e => by cases e)) hls2.size HGG.out.1 (HNA.out.mono (same_below hbd) (fun _ x => x)) (HNK.out.mono (same_below hbd) (fun _ x => x)) HM2.out
        unfold ndV at hcall
        rw [← HX.out.1, ← HX.out.2, HI1.out] at hcall
        have HCALL := hide hcall
        have HLS2 := hide (hls2.kept (w' := W2.drew) (Below.refl _ _).drew)
        have HBX2 := hide hbx2
        have HBD := hide hbd
        clear hcall hls2 hinv2 hbx2 hbw2 hbd
        go_region_law (first
          | (refine step_level rfl _ _ rfl B (.slice (some ⟨g, 0, none⟩) (rest.length + 1) cap) ({ p with lv := .slice (some { block := a.block, off := a.off + 4 }) R.len (LC - 1), R := R } :: rest) rfl ?_ ?_ ⟨w3.heap.size, 0, none⟩ h NA MA IA h.attrs.length NC K.len MC IM IC (inner dv h K) rfl ((lev_row _ _ _ _ _ _).1.trans (by rw [HX.out.1])) (lev_row _ _ _ _ _ _).2.1 ((lev_row _ _ _ _ _ _).2.2.1.trans (by rw [HX.out.2])) (lev_row _ _ _ _ _ _).2.2.2.1 (lev_row _ _ _ _ _ _).2.2.2.2 (by have := HLN.out; simp only [List.length_cons]; omega) ?_
             · exact (HL3.out.kept (below_one w3 _)).row
             · exact Nat.le_trans HL3.out.size (below_one w3 _).size
             intro v' w5 ho2 hg2
             obtain ⟨hl5, hi5⟩ := pushedL (q := ⟨h, .slice NA h.attrs.length NC, .slice MA K.len MC, .slice IA IM IC, inner dv h K⟩) (K := K) HINV.out HL3.out HI3.out HB3.out HI2.out HNA.out HNK.out ho2 hg2
             obtain ⟨ao, n', c', rfl⟩ : ∃ ao n' c', v' = .slice ao n' c' := by
               rcases ho2.2 with ⟨hv, _⟩ | ⟨g0, c0, cur, hv, _⟩
               · exact ⟨_, _, _, hv⟩
               · exact ⟨_, _, _, hv⟩
             have HL5 := hide hl5
             have HI5 := hide hi5
             clear ho2 hg2 hl5 hi5)
          | (go_simp; (with_reducible refine HCALL.out.mono ?_); rintro e w3 ⟨rfl, hi3, hf3⟩; have hb3 := (hf3.2 wr.heap.size _ _ _ HBX2.out (.inr rfl)).trans HBX2.out; have z0 : w3.cell? ⟨wr.heap.size, 0, none⟩ = some (.string X0) := (Lib.cell_of_heap hb3 0).trans rfl; have z1 : w3.cell? ⟨wr.heap.size, 1, none⟩ = some (.slice NA h.attrs.length NC) := (Lib.cell_of_heap hb3 1).trans rfl; have z2 : w3.cell? ⟨wr.heap.size, 2, none⟩ = some (.string X1) := (Lib.cell_of_heap hb3 2).trans rfl; have z3 : w3.cell? ⟨wr.heap.size, 3, none⟩ = some (.slice MA K.len MC) := (Lib.cell_of_heap hb3 3).trans rfl; have HI3 := hide hi3; have HL3 := hide (HLS2.out.frame hf3); have HB3 := hide (HBD.out.trans hf3.1); clear hi3 hf3 hb3))
        all_goals
          go_wp2_with fail
          cases gk with
          | zero => exact absurd HS2.out (Nat.not_succ_le_zero _)
          | succ gk =>
          go_roundg gk
          case rel =>
            refine hide ⟨_, bg s h K, by simp, HL5.out, HI5.out, HU2.out, Nat.le_of_succ_le_succ HS2.out, by have := HHB.out; omega, fun x hx => ?_⟩
            rcases List.mem_cons.1 hx with rfl | hx
            · exact inner_ev dv HGG.out.2.1
            · rcases List.mem_cons.1 hx with rfl | hx
              · exact HGG.out.2.2
              · exact HEV.out x (List.mem_cons_of_mem _ hx)
          case measure => omega
end Go.Proofs.YtiejmkjpgjbodaaGreatDoor

namespace Go.Proofs.YtiejmkjpgjbodaaGreatDoor
open Go.RowKit
set_option linter.unusedVariables false
set_option linter.unusedSimpArgs false
set_option maxRecDepth 100000
def BegOKb {σ : Type} (B Kb : Nat) (cb : Value) (Inv : σ → World → Prop) (bg : σ → NdH → Tr → σ) (dv : NdH → Bool) (μ : σ → Nat) (M : Nat) (G : NdH → Tr → Prop) : Prop :=
  ∀ (s : σ) (w : World) (h : NdH) (K : Tr) (av : Value) (A : Option Addr) (m c : Nat), Inv s w → B ≤ w.heap.size → G h K → AttrsC (fun b => b < B) w av h.attrs → NodesC (fun b => b < B) w (.slice A m c) K → μ (bg s h K) ≤ M →
    Calls Tryz.prog Kb (#[cb, ndV h av (.slice A m c)]) w fun e w' => e = .returned (if dv h = true then .slice A m c else .slice none 0 0) ∧ Inv (bg s h K) w' ∧ FrL B w w'
def EndOKb {σ : Type} (B Ke : Nat) (ce : Value) (Inv : σ → World → Prop) (en : σ → NdH → σ) (μ : σ → Nat) (M : Nat) : Prop :=
  ∀ (s : σ) (w : World) (h : NdH) (K : Tr) (av kv : Value), Inv s w → B ≤ w.heap.size → AttrsC (fun b => b < B) w av h.attrs → NodesC (fun b => b < B) w kv K → μ (en s h) ≤ M →
    Calls Tryz.prog Ke (#[ce, ndV h av kv]) w fun e w' => e = .returned (.tuple #[]) ∧ Inv (en s h) w' ∧ FrL B w w'
set_option maxHeartbeats 32000000 in
theorem walk_genb {σ : Type} (B Kb Ke : Nat) (cb ce : Value) (hKb : ∀ args w, (callFunc Kb args).run Tryz.prog w = .ok (.enter Kb args) w) (hKe : ∀ args w, (callFunc Ke args).run Tryz.prog w = .ok (.enter Ke args) w)
    (Inv : σ → World → Prop) (bg : σ → NdH → Tr → σ) (en : σ → NdH → σ) (dv : NdH → Bool) (μ : σ → Nat) (M : Nat) (G : NdH → Tr → Prop) (hmb : ∀ s h K, μ s ≤ μ (bg s h K)) (hme : ∀ s h, μ s ≤ μ (en s h))
    (hinv : InvOK B Inv) (hbeg : BegOKb B Kb cb Inv bg dv μ M G) (hend : EndOKb B Ke ce Inv en μ M)
    (v : Value) (T : Tr) (s0 : σ) (w : World) (hT : NodesC (fun b => b < B) w v T) (hG : T.ev G) (hc : T.count ≤ 1000000) (hM : μ (vis bg en dv T s0) ≤ M) (h0 : Inv s0 w) (hB : B ≤ w.heap.size) :
    Calls Tryz.prog 49 #[v, .func (.func Kb) #[cb] #[], .func (.func Ke) #[ce] #[]] w fun e w' => e = .returned (.tuple #[]) ∧ Inv (vis bg en dv T s0) w' ∧ Below B w w' := by
  obtain ⟨F, hF⟩ : ∃ F, F = vis bg en dv T s0 := ⟨_, rfl⟩
  rw [← hF] at hM ⊢
  obtain ⟨VA, VC, hv⟩ := hT.form
  have hls : LS B (.slice (some ⟨w.heap.size, 0, none⟩) 1 1) [⟨⟨[], [], []⟩, .slice none 0 0, .slice none 0 0, v, T⟩] w (w.alloc (.cells #[.string ⟨#[]⟩, .slice none 0 0, .string ⟨#[]⟩, .slice none 0 0, v] 115)) := by
    have hb := (below_one w (Obj.cells #[.string ⟨#[]⟩, .slice none 0 0, .string ⟨#[]⟩, .slice none 0 0, v] 115)).mono hB
    refine ⟨World.ownsRow_lit (base := B) (e := 115) (size := 5) w #[.string ⟨#[]⟩, .slice none 0 0, .string ⟨#[]⟩, .slice none 0 0, v] 1 hB (by decide) rfl, fun p hp => ?_, fun p hp => ?_, hb, Nat.le_trans hB hb.size⟩
    · obtain rfl := List.mem_singleton.1 hp
      exact hT.mono (same_below hb) (fun _ x => x)
    · obtain rfl := List.mem_singleton.1 hp
      exact ⟨⟨.inl ⟨rfl, rfl⟩, fun a n c e => (by cases e)⟩, .nil, .inl ⟨rfl, rfl⟩⟩
  have hinv0 : Inv s0 (w.alloc (.cells #[.string ⟨#[]⟩, .slice none 0 0, .string ⟨#[]⟩, .slice none 0 0, v] 115)) := hinv s0 w _ none h0 (World.grownBy_alloc w _ none) (fun k e => by cases e)
  have HS : Hid (GoneS B Inv bg en dv G F (2 * T.count + 1) (.slice (some ⟨w.heap.size, 0, none⟩) 1 1) w (w.alloc (.cells #[.string ⟨#[]⟩, .slice none 0 0, .string ⟨#[]⟩, .slice none 0 0, v] 115))) :=
    hide ⟨_, s0, by simp, hls, hinv0, hF.symm, by simp [stepsW, LevV.toP], by omega, fun p hp => by obtain rfl := List.mem_singleton.1 hp; exact hG⟩
  have HINV := hide hinv
  have HBEG := hide hbeg
  have HEND := hide hend
  have HM := hide hM
  have HKB := hide hKb
  have HKE := hide hKe
  have HMB := hide (And.intro hmb hme)
  subst hv
  clear hinv hbeg hend hM hT hG hc h0 hF hls hinv0 hmb hme
  go_enter Tryz.func49, Tryz.ntmps49
  go_wp2_with fail
  go_loopg [6, 7, 8] (2 * T.count + 1) (fun gk r u7 u8 wr => Hid (GoneS B Inv bg en dv G F gk r w wr))
  case atStart => exact HS.out
  case round =>
    obtain ⟨st, s, hne, hl, hi, hu, hstep, hbig, hev⟩ := hrel.out
    match st, hne with
    | p :: rest, _ =>
    obtain ⟨g, cap, rfl, i1, i2, i3, i4⟩ := hl.form (by simp)
    have hl2 : LS B (.slice (some ⟨g, 0, none⟩) (rest.length + 1) cap) (p :: rest) w wr := hl
    have hlen : rest.length ≤ 4000000 := by
      have h1 := steps_len ((p :: rest).map LevV.toP)
      simp only [List.length_map, List.length_cons] at h1
      omega
    obtain ⟨e0, e1, e2, e3, e4, ef⟩ := hl2.cells
    have tn1 : wrap64 ((rest.length : Int) + 1 - 1) = (rest.length : Int) := by unfold wrap64; omega
    have tn5 : (rest.length : Int) < (rest.length : Int) + 1 := by omega
    have HI := hide hi
    have HCP := hide (And.intro i1 i2)
    have HEV := hide hev
    have hleft := hl2.left p (List.mem_cons_self ..)
    have HL := hide hl2
    have HHB := hide hbig
    have HST := hide hstep
    have HLN := hide hlen
    obtain ⟨AA, AC, hav⟩ := (hl2.node p (List.mem_cons_self ..)).1.1.form
    obtain ⟨KK, hKK⟩ := (hl2.node p (List.mem_cons_self ..)).2
    obtain ⟨KA, KC, hkv⟩ := hKK.form
    have HKK := hide hKK
    have HAV := hide hav
    have HKV := hide hkv
    rw [hav] at e1
    rw [hkv] at e3
    obtain ⟨LA, LC, hlv⟩ := hleft.form
    have HLV := hide hlv
    rw [hlv] at e4
    have hlv' := hlv
    clear hl hl2 hi i1 i2 i3 i4 hev hbig hstep hne hrel hKK hav hkv hlv hlen
    cases hR : p.R with
    | nil =>
      rw [hR] at e4
      have e4' : wr.cell? ⟨g, rest.length * 5 + 4, none⟩ = some (.slice LA 0 LC) := e4
      clear e4
      match rest, hu, HL, HI, HEV, HST, HLN, e0, e1, e2, e3, e4', tn1, tn5, HCP with
      | [], hu, HL, HI, HEV, HST, HLN, e0, e1, e2, e3, e4', tn1, tn5, HCP =>
        have hFs : s = F := by
          rw [← hu]
          show s = vis bg en dv p.R s
          rw [hR]; rfl
        have HE : Hid (Inv F wr ∧ Below B w wr) := hide ⟨by rw [← hFs]; exact HI.out, HL.out.below⟩
        clear hu hFs hR hleft
        simp only [List.length_nil, Nat.zero_mul, Nat.zero_add] at e0 e1 e2 e3 e4'
        clear tn1 tn5
        go_wp2_with fail
        try simp only [Exit.inBlock, Exit.then]
        refine bodyPost_ret (results_none rfl _ _ _) rfl ?_
        exact ⟨rfl, HE.out⟩
      | q :: rest, hu, HL, HI, HEV, HST, HLN, e0, e1, e2, e3, e4', tn1, tn5, HCP =>
        have hu2 : unw bg en dv ((q :: rest).map LevV.toP) (en s p.h) = F := by
          rw [← hu]
          show _ = unw bg en dv ((p.h, p.R) :: q.toP :: rest.map LevV.toP) s
          rw [hR]; rfl
        have hM2 : μ (en s p.h) ≤ M := Nat.le_trans (unw_mono bg en dv μ HMB.out.1 HMB.out.2 ((q :: rest).map LevV.toP) (en s p.h)) (by rw [hu2]; exact HM.out)
        have hen := HEND.out s wr p.h KK (.slice AA p.h.attrs.length AC) (.slice KA KK.len KC) HI.out HL.out.size (by rw [← HAV.out]; exact (HL.out.node p (List.mem_cons_self ..)).1) (by rw [← HKV.out]; exact HKK.out) hM2
        unfold ndV at hen
        have HEN := hide hen
        have HU2 := hide hu2
        obtain ⟨X0, hX0⟩ : ∃ X, X = str p.h.name := ⟨_, rfl⟩
        obtain ⟨X1, hX1⟩ : ∃ X, X = str p.h.text := ⟨_, rfl⟩
        simp only [List.length_cons] at e0 e1 e2 e3 e4' tn1 tn5
        rw [← hX0] at e0 HEN
        rw [← hX1] at e2 HEN
        have t8 : decide ((1 : Int) < (rest.length : Int) + 1 + 1) = true := decide_eq_true (by omega)
        have hln : rest.length + 1 ≤ 4000000 := by have := HLN.out; simp only [List.length_cons] at this; exact this
        clear hu hu2 hM2 hen hleft hR hX0 hX1 tn1 tn5
        have hsl1 : (0 : Int) ≤ (rest.length : Int) + 1 := by omega
        have hsl2 : (rest.length : Int) + 1 ≤ (cap : Int) := by have := HCP.out.1; simp only [List.length_cons] at this; omega
        have hsl3 : ((rest.length : Int) + 1).toNat = rest.length + 1 := by omega
        go_wp2_with fail
        refine HEN.out.mono ?_
        rintro e w1 ⟨rfl, hi1, hf1⟩
        have HI1 := hide hi1
        have HF1 := hide hf1
        clear hi1 hf1 e0 e1 e2 e3 e4'
        go_wp2_with fail
        cases gk with
        | zero => exact absurd HST.out (by simp only [List.map_cons, stepsW]; omega)
        | succ gk =>
        go_roundg gk
        case rel =>
          refine hide ⟨q :: rest, en s p.h, by simp, (LS.frame HL.out HF1.out).pop, HI1.out, HU2.out, ?_, by have := HHB.out; omega, fun x hx => HEV.out x (List.mem_cons_of_mem _ hx)⟩
          have h1 := HST.out
          simp only [List.map_cons, stepsW] at h1 ⊢
          omega
        case measure => omega
    | cons h K R =>
      rw [hR] at e4 hleft
      rw [hlv'] at hleft
      have hcapL := hleft.cap
      have HLVC := hide hcapL.2.2
      obtain ⟨a, rfl, hat, hcl⟩ : ∃ a, LA = some a ∧ NodesAt (fun b => b < B) wr (.cons h K R) a ∧ R.len + 1 ≤ LC := by
        rcases hleft with ⟨h1, h2⟩ | ⟨a, cp, h1, h2, h3, h4⟩
        · cases h2
        · injection h1 with e5 e6 e7
          subst e7
          exact ⟨a, e5, h4, h2⟩
      obtain ⟨n0, n1, n2, ⟨uA, n3, n4⟩, ⟨uK, n5, n6⟩, n7⟩ := hat
      obtain ⟨NA, NC, rfl⟩ := n4.1.form
      have n6' : NodesC (fun b => b < B) wr uK K := n6
      obtain ⟨MA, MC, rfl⟩ := n6'.form
      have hnl : ∀ ad : Addr, ({ block := a.block, off := a.off + 1 } : Addr) = a.add 1 ∧ ({ block := a.block, off := a.off + 2 } : Addr) = a.add 2 ∧ ({ block := a.block, off := a.off + 3 } : Addr) = a.add 3 := fun _ => ⟨rfl, rfl, rfl⟩
      have m1 : wr.cell? { block := a.block, off := a.off + 1 } = some (.slice NA h.attrs.length NC) := n3
      have m2 : wr.cell? { block := a.block, off := a.off + 2 } = some (.string (str h.text)) := n2
      have m3 : wr.cell? { block := a.block, off := a.off + 3 } = some (.slice MA K.len MC) := n5
      obtain ⟨X0, hX0⟩ : ∃ X, X = str h.name := ⟨_, rfl⟩
      obtain ⟨X1, hX1⟩ : ∃ X, X = str h.text := ⟨_, rfl⟩
      rw [← hX0] at n1
      rw [← hX1] at m2
      have HX := hide (And.intro hX0 hX1)
      have HNA := hide n4
      have HNK := hide n6'
      have hLg : g ≠ wr.heap.size := by
        have := World.block_lt_of_cell? _ _ e4
        exact Nat.ne_of_lt this
      have t4 : decide ((0 : Int) < (R.len : Int) + 1) = true := decide_eq_true (by omega)
      have e4' : wr.cell? ⟨g, rest.length * 5 + 4, none⟩ = some (.slice (some a) (R.len + 1) LC) := e4
      have hln : rest.length ≤ 4000000 := HLN.out
      have hrln : R.len ≤ 4000000 := by
        have h1 := HST.out
        have h2 := HHB.out
        simp only [List.map_cons, stepsW] at h1
        rw [show p.toP.2 = p.R from rfl, hR] at h1
        simp only [Tr.count] at h1
        have h3 := Tr.len_count R
        omega
      have hst2 : stepsW ((h, inner dv h K) :: (p.h, R) :: rest.map LevV.toP) + 1 ≤ gk := by
        have h1 := HST.out
        simp only [List.map_cons, stepsW] at h1
        rw [show p.toP.2 = p.R from rfl, hR] at h1
        simp only [Tr.count] at h1
        simp only [stepsW]
        have := inner_count dv h K
        omega
      have hu2 : unw bg en dv ((h, inner dv h K) :: (p.h, R) :: rest.map LevV.toP) (bg s h K) = F := by
        rw [← unw_visit, ← hu]
        show _ = unw bg en dv ((p.h, p.R) :: rest.map LevV.toP) s
        rw [hR]
      have hM2 : μ (bg s h K) ≤ M := Nat.le_trans (unw_mono bg en dv μ HMB.out.1 HMB.out.2 _ (bg s h K)) (by rw [hu2]; exact HM.out)
      obtain ⟨hGk, hGK, hGR⟩ : G h K ∧ K.ev G ∧ R.ev G := by
        have := HEV.out p (List.mem_cons_self ..)
        rw [hR] at this
        exact this
      have HU2 := hide hu2
      have HS2 := hide hst2
      have HM2 := hide hM2
      have HGG := hide (And.intro hGk (And.intro hGK hGR))
      clear hu hu2 hst2 hM2 hGk hGK hGR hR
      have e4a : ∀ ob, (wr.alloc ob).cell? ⟨g, rest.length * 5 + 4, none⟩ = some (.slice (some a) (R.len + 1) LC) := fun ob => ((below_one wr ob).cell (World.block_lt_of_cell? _ _ e4')).trans e4'
      have efa : ∀ ob i, (wr.alloc ob).frozen? ⟨g, i, none⟩ = false := fun ob i => ((below_one wr ob).frozen (p := ⟨g, i, none⟩) (show g < wr.heap.size from World.block_lt_of_cell? _ _ e4')).trans (ef i)
      clear e4 e0 e1 e2 e3 tn1 n0 n2 n3 n4 n5 n6 n6' hX0 hX1 hnl
      -- the node's box, and what is left
      have hbk := below_one wr (Obj.cells #[.string X0, .slice NA h.attrs.length NC, .string X1, .slice MA K.len MC] 33)
      have HL2 : Hid (∀ u, NodesC (fun b => b < B) wr u R → LS B (.slice (some ⟨g, 0, none⟩) (rest.length + 1) cap) ({ p with lv := u, R := R } :: rest) w ((wr.alloc (Obj.cells #[.string X0, .slice NA h.attrs.length NC, .string X1, .slice MA K.len MC] 33)).setCell ⟨g, rest.length * 5 + 4, none⟩ u) ∧ Inv s ((wr.alloc (Obj.cells #[.string X0, .slice NA h.attrs.length NC, .string X1, .slice MA K.len MC] 33)).setCell ⟨g, rest.length * 5 + 4, none⟩ u)) := hide fun u hu => by
        have hl3 := HL.out.kept hbk
        obtain ⟨k1, k2⟩ := hl3.putLeft u R (hu.mono (same_below (hbk.mono HL.out.size)) (fun _ x => x))
        refine ⟨k1, HINV.out s _ _ (some g) (HINV.out s wr _ none HI.out (World.grownBy_alloc wr _ none) (fun k e => by cases e)) k2 (fun k e => ?_)⟩
        injection e with e
        subst e
        exact hl3.lev
      have HBX : Hid (∀ u, ((wr.alloc (Obj.cells #[.string X0, .slice NA h.attrs.length NC, .string X1, .slice MA K.len MC] 33)).setCell ⟨g, rest.length * 5 + 4, none⟩ u).heap[wr.heap.size]? = some (Obj.cells #[.string X0, .slice NA h.attrs.length NC, .string X1, .slice MA K.len MC] 33 (0, 0))) := hide fun u =>
        (Below.heap_setCell _ ⟨g, rest.length * 5 + 4, none⟩ u wr.heap.size (fun e => hLg e.symm)).trans (heap_alloc_new wr _)
      have HBW : Hid (∀ u, Below B wr ((wr.alloc (Obj.cells #[.string X0, .slice NA h.attrs.length NC, .string X1, .slice MA K.len MC] 33)).setCell ⟨g, rest.length * 5 + 4, none⟩ u)) := hide fun u => (hbk.mono HL.out.size).setCell (p := ⟨g, rest.length * 5 + 4, none⟩) HL.out.lev.1 u
      obtain ⟨IA, IM, IC, hI1, hI2⟩ : ∃ A m c, (if dv h = true then Value.slice MA K.len MC else .slice none 0 0) = .slice A m c ∧ NodesC (fun b => b < B) wr (.slice A m c) (inner dv h K) := by
        unfold inner
        split
        · exact ⟨_, _, _, rfl, HNK.out⟩
        · exact ⟨_, _, _, rfl, .inl ⟨rfl, rfl⟩⟩
      have HI1 := hide hI1
      have HI2 := hide hI2
      have HN7 := hide n7
      have HC1 := hide hcl
      clear hbk hI1 hI2 n7 hcl hLg hleft hcapL
      by_cases hc1 : LC = 1
      · have hu : NodesC (fun b => b < B) wr (.slice (some a) 0 0) R := by
          cases R with
          | nil => exact .inr ⟨a, 0, rfl, Nat.le_refl _, Nat.zero_le _, trivial⟩
          | cons h' K' R' => have := HC1.out; simp only [Tr.len] at this; omega
        have hr0 : R.len = 0 := by have := HC1.out; omega
        have HUU := hide hu
        clear hu
        subst hc1
        go_wp2_with fail
        obtain ⟨hls2, hinv2⟩ := HL2.out (.slice (some a) 0 0) HUU.out
        have hbx2 := HBX.out (.slice (some a) 0 0)
        have hbw2 := HBW.out (.slice (some a) 0 0)
        clear e4a efa e4' n1 m1 m2 m3 t4
        generalize ((wr.alloc (Obj.cells #[.string X0, .slice NA h.attrs.length NC, .string X1, .slice MA K.len MC] 33)).setCell ⟨g, rest.length * 5 + 4, none⟩ (.slice (some a) 0 0)) = W2 at hls2 hinv2 hbx2 hbw2 ⊢
        have y0 : W2.cell? ⟨wr.heap.size, 0, none⟩ = some (.string X0) := by rw [Lib.cell_of_heap hbx2]; rfl
        have y1 : W2.cell? ⟨wr.heap.size, 1, none⟩ = some (.slice NA h.attrs.length NC) := by rw [Lib.cell_of_heap hbx2]; rfl
        have y2 : W2.cell? ⟨wr.heap.size, 2, none⟩ = some (.string X1) := by rw [Lib.cell_of_heap hbx2]; rfl
        have y3 : W2.cell? ⟨wr.heap.size, 3, none⟩ = some (.slice MA K.len MC) := by rw [Lib.cell_of_heap hbx2]; rfl
        have hbd : Below B wr W2.drew := hbw2.drew
        have hcall := HBEG.out s W2.drew h K (.slice NA h.attrs.length NC) MA K.len MC (HINV.out s W2 W2.drew none hinv2 ⟨rfl, rfl, rfl, Nat.le_refl _, fun _ _ _ => rfl⟩ (fun k e => by cases e)) hls2.size HGG.out.1 (HNA.out.mono (same_below hbd) (fun _ x => x)) (HNK.out.mono (same_below hbd) (fun _ x => x)) HM2.out
        unfold ndV at hcall
        rw [← HX.out.1, ← HX.out.2, HI1.out] at hcall
        have HCALL := hide hcall
        have HLS2 := hide (hls2.kept (w' := W2.drew) (Below.refl _ _).drew)
        have HBX2 := hide hbx2
        have HBD := hide hbd
        clear hcall hls2 hinv2 hbx2 hbw2 hbd
        go_region_law (first
          | (refine step_level rfl _ _ rfl B (.slice (some ⟨g, 0, none⟩) (rest.length + 1) cap) ({ p with lv := .slice (some a) 0 0, R := R } :: rest) rfl ?_ ?_ ⟨w3.heap.size, 0, none⟩ h NA MA IA h.attrs.length NC K.len MC IM IC (inner dv h K) rfl ((lev_row _ _ _ _ _ _).1.trans (by rw [HX.out.1])) (lev_row _ _ _ _ _ _).2.1 ((lev_row _ _ _ _ _ _).2.2.1.trans (by rw [HX.out.2])) (lev_row _ _ _ _ _ _).2.2.2.1 (lev_row _ _ _ _ _ _).2.2.2.2 (by have := HLN.out; simp only [List.length_cons]; omega) ?_
             · exact (HL3.out.kept (below_one w3 _)).row
             · exact Nat.le_trans HL3.out.size (below_one w3 _).size
             intro v' w5 ho2 hg2
             obtain ⟨hl5, hi5⟩ := pushedL (q := ⟨h, .slice NA h.attrs.length NC, .slice MA K.len MC, .slice IA IM IC, inner dv h K⟩) (K := K) HINV.out HL3.out HI3.out HB3.out HI2.out HNA.out HNK.out ho2 hg2
             obtain ⟨ao, n', c', rfl⟩ : ∃ ao n' c', v' = .slice ao n' c' := by
               rcases ho2.2 with ⟨hv, _⟩ | ⟨g0, c0, cur, hv, _⟩
               · exact ⟨_, _, _, hv⟩
               · exact ⟨_, _, _, hv⟩
             have HL5 := hide hl5
             have HI5 := hide hi5
             clear ho2 hg2 hl5 hi5)
          | (go_simp; (with_reducible refine HCALL.out.mono ?_); rintro e w3 ⟨rfl, hi3, hf3⟩; have hb3 := (hf3.2 wr.heap.size _ _ _ HBX2.out (.inr rfl)).trans HBX2.out; have z0 : w3.cell? ⟨wr.heap.size, 0, none⟩ = some (.string X0) := (Lib.cell_of_heap hb3 0).trans rfl; have z1 : w3.cell? ⟨wr.heap.size, 1, none⟩ = some (.slice NA h.attrs.length NC) := (Lib.cell_of_heap hb3 1).trans rfl; have z2 : w3.cell? ⟨wr.heap.size, 2, none⟩ = some (.string X1) := (Lib.cell_of_heap hb3 2).trans rfl; have z3 : w3.cell? ⟨wr.heap.size, 3, none⟩ = some (.slice MA K.len MC) := (Lib.cell_of_heap hb3 3).trans rfl; have HI3 := hide hi3; have HL3 := hide (HLS2.out.frame hf3); have HB3 := hide (HBD.out.trans hf3.1); clear hi3 hf3 hb3))
        all_goals
          go_wp2_with fail
          cases gk with
          | zero => exact absurd HS2.out (Nat.not_succ_le_zero _)
          | succ gk =>
          go_roundg gk
          case rel =>
            refine hide ⟨_, bg s h K, by simp, HL5.out, HI5.out, HU2.out, Nat.le_of_succ_le_succ HS2.out, by have := HHB.out; omega, fun x hx => ?_⟩
            rcases List.mem_cons.1 hx with rfl | hx
            · exact inner_ev dv HGG.out.2.1
            · rcases List.mem_cons.1 hx with rfl | hx
              · exact HGG.out.2.2
              · exact HEV.out x (List.mem_cons_of_mem _ hx)
          case measure => omega
      · have hu : NodesC (fun b => b < B) wr (.slice (some { block := a.block, off := a.off + 4 }) R.len (LC - 1)) R := .inr ⟨a.add 4, LC - 1, rfl, by have := HC1.out; omega, by have := HCP.out.2; have := HLVC.out; omega, HN7.out⟩
        have HUU := hide hu
        clear hu
        go_wp2_with fail
        obtain ⟨hls2, hinv2⟩ := HL2.out (.slice (some { block := a.block, off := a.off + 4 }) R.len (LC - 1)) HUU.out
        have hbx2 := HBX.out (.slice (some { block := a.block, off := a.off + 4 }) R.len (LC - 1))
        have hbw2 := HBW.out (.slice (some { block := a.block, off := a.off + 4 }) R.len (LC - 1))
        clear e4a efa e4' n1 m1 m2 m3 t4
        generalize ((wr.alloc (Obj.cells #[.string X0, .slice NA h.attrs.length NC, .string X1, .slice MA K.len MC] 33)).setCell ⟨g, rest.length * 5 + 4, none⟩ (.slice (some { block := a.block, off := a.off + 4 }) R.len (LC - 1))) = W2 at hls2 hinv2 hbx2 hbw2 ⊢
        have y0 : W2.cell? ⟨wr.heap.size, 0, none⟩ = some (.string X0) := by rw [Lib.cell_of_heap hbx2]; rfl
        have y1 : W2.cell? ⟨wr.heap.size, 1, none⟩ = some (.slice NA h.attrs.length NC) := by rw [Lib.cell_of_heap hbx2]; rfl
        have y2 : W2.cell? ⟨wr.heap.size, 2, none⟩ = some (.string X1) := by rw [Lib.cell_of_heap hbx2]; rfl
        have y3 : W2.cell? ⟨wr.heap.size, 3, none⟩ = some (.slice MA K.len MC) := by rw [Lib.cell_of_heap hbx2]; rfl
        have hbd : Below B wr W2.drew := hbw2.drew
        have hcall := HBEG.out s W2.drew h K (.slice NA h.attrs.length NC) MA K.len MC (HINV.out s W2 W2.drew none hinv2 ⟨rfl, rfl, rfl, Nat.le_refl _, fun _ _ _ => rfl⟩ (fun k e => by cases e)) hls2.size HGG.out.1 (HNA.out.mono (same_below hbd) (fun _ x => x)) (HNK.out.mono (same_below hbd) (fun _ x => x)) HM2.out
        unfold ndV at hcall
        rw [← HX.out.1, ← HX.out.2, HI1.out] at hcall
        have HCALL := hide hcall
        have HLS2 := hide (hls2.kept (w' := W2.drew) (Below.refl _ _).drew)
        have HBX2 := hide hbx2
        have HBD := hide hbd
        clear hcall hls2 hinv2 hbx2 hbw2 hbd
        go_region_law (first
          | (refine step_level rfl _ _ rfl B (.slice (some ⟨g, 0, none⟩) (rest.length + 1) cap) ({ p with lv := .slice (some { block := a.block, off := a.off + 4 }) R.len (LC - 1), R := R } :: rest) rfl ?_ ?_ ⟨w3.heap.size, 0, none⟩ h NA MA IA h.attrs.length NC K.len MC IM IC (inner dv h K) rfl ((lev_row _ _ _ _ _ _).1.trans (by rw [HX.out.1])) (lev_row _ _ _ _ _ _).2.1 ((lev_row _ _ _ _ _ _).2.2.1.trans (by rw [HX.out.2])) (lev_row _ _ _ _ _ _).2.2.2.1 (lev_row _ _ _ _ _ _).2.2.2.2 (by have := HLN.out; simp only [List.length_cons]; omega) ?_
             · exact (HL3.out.kept (below_one w3 _)).row
             · exact Nat.le_trans HL3.out.size (below_one w3 _).size
             intro v' w5 ho2 hg2
             obtain ⟨hl5, hi5⟩ := pushedL (q := ⟨h, .slice NA h.attrs.length NC, .slice MA K.len MC, .slice IA IM IC, inner dv h K⟩) (K := K) HINV.out HL3.out HI3.out HB3.out HI2.out HNA.out HNK.out ho2 hg2
             obtain ⟨ao, n', c', rfl⟩ : ∃ ao n' c', v' = .slice ao n' c' := by
               rcases ho2.2 with ⟨hv, _⟩ | ⟨g0, c0, cur, hv, _⟩
               · exact ⟨_, _, _, hv⟩
               · exact ⟨_, _, _, hv⟩
             have HL5 := hide hl5
             have HI5 := hide hi5
             clear ho2 hg2 hl5 hi5)
          | (go_simp; (with_reducible refine HCALL.out.mono ?_); rintro e w3 ⟨rfl, hi3, hf3⟩; have hb3 := (hf3.2 wr.heap.size _ _ _ HBX2.out (.inr rfl)).trans HBX2.out; have z0 : w3.cell? ⟨wr.heap.size, 0, none⟩ = some (.string X0) := (Lib.cell_of_heap hb3 0).trans rfl; have z1 : w3.cell? ⟨wr.heap.size, 1, none⟩ = some (.slice NA h.attrs.length NC) := (Lib.cell_of_heap hb3 1).trans rfl; have z2 : w3.cell? ⟨wr.heap.size, 2, none⟩ = some (.string X1) := (Lib.cell_of_heap hb3 2).trans rfl; have z3 : w3.cell? ⟨wr.heap.size, 3, none⟩ = some (.slice MA K.len MC) := (Lib.cell_of_heap hb3 3).trans rfl; have HI3 := hide hi3; have HL3 := hide (HLS2.out.frame hf3); have HB3 := hide (HBD.out.trans hf3.1); clear hi3 hf3 hb3))
        all_goals
          go_wp2_with fail
          cases gk with
          | zero => exact absurd HS2.out (Nat.not_succ_le_zero _)
          | succ gk =>
          go_roundg gk
          case rel =>
            refine hide ⟨_, bg s h K, by simp, HL5.out, HI5.out, HU2.out, Nat.le_of_succ_le_succ HS2.out, by have := HHB.out; omega, fun x hx => ?_⟩
            rcases List.mem_cons.1 hx with rfl | hx
            · exact inner_ev dv HGG.out.2.1
            · rcases List.mem_cons.1 hx with rfl | hx
              · exact HGG.out.2.2
              · exact HEV.out x (List.mem_cons_of_mem _ hx)
          case measure => omega
end Go.Proofs.YtiejmkjpgjbodaaGreatDoor

namespace Go.Proofs.YtiejmkjpgjbodaaGreatDoor
open Go.RowKit
set_option linter.unusedVariables false
set_option linter.unusedSimpArgs false
set_option maxRecDepth 100000
theorem info_pg : (Tryz.prog.info? 124).map (fun i => (i.zero, i.size, i.bytes)) = some (some (.agg #[.slice none 0 0, .slice none 0 0]), 2, 48) := by kernel_rfl
theorem info_pl : (Tryz.prog.info? 126).map (fun i => (i.zero, i.size, i.bytes)) = some (some (.agg #[.int .i64 0, .int .i64 0]), 2, 16) := by kernel_rfl
theorem wpList_pgs {ops : Array Oper} {rest : List Oper} {o : Oper} {a : Act} {Q : Exit → Act → World → Prop} {w : World} (hgd : o.guard = none) (s x : Operand)
    (ho : o.op = .call { callee := .builtin .append, args := #[s, x], argTypes := #[90, 90] })
    (B : Nat) (v : Value) (l : List PgV) (n : Nat) (hn : l.length = n) (hs : a.eval s = v) (hb : w.ownsRow B 124 2 v n (pgVals l)) (hB : B ≤ w.heap.size) (ad : Addr)
    (hx : a.eval x = .slice (some ad) 1 1) (h0 : w.cell? (ad.add 0) = some (.slice none 0 0)) (h1 : w.cell? (ad.add 1) = some (.slice none 0 0)) (hlen : n + 1 ≤ 1000000001)
    (h : ∀ g' c' w', w'.ownsRow B 124 2 (.slice (some ⟨g', 0, none⟩) (n + 1) c') (n + 1) (pgVals (l ++ [⟨([], []), .slice none 0 0, .slice none 0 0⟩])) → w.grownBy w' v.ownBlock → wpList Tryz.prog ops Q rest (a.put o.dst (.slice (some ⟨g', 0, none⟩) (n + 1) c')) w') : wpList Tryz.prog ops Q (o :: rest) a w := by
  subst hn
  obtain ⟨i0, hi, hz0, hz1, hz2⟩ := info_parts info_pg
  refine wpList_append_own2 _ hgd s x 90 ho B 124 i0 (.agg #[.slice none 0 0, .slice none 0 0]) 2 48 Tryz.underlying90 hi hz0 hz1 hz2 rfl (by decide) v l.length (pgVals l) hs hb ad 1 1 [.slice none 0 0, .slice none 0 0] hx rfl ?_ ?_ (by unfold maxLen; omega) (by omega) hB ?_
  · intro j u hj
    match j, hj with
    | 0, hj => simp at hj; subst hj; exact h0
    | 1, hj => simp at hj; subst hj; exact h1
    | (j + 2), hj => simp at hj
  · intro u hu; simp at hu; subst hu; rfl
  · intro v' w' ho' hg hor
    rcases ho'.2 with ⟨_, h0⟩ | ⟨g', cap', cur, rfl, _⟩
    · cases h0
    · exact h g' cap' w' (by rw [pgVals_append]; exact ho') hg
theorem step_pls {ops : Array Oper} {o : Oper} {a : Act} {w : World} {K : Act → World → Prop} {Q : Exit → Act → World → Prop} {E : Prop} (hgd : o.guard = none) (s x : Operand)
    (ho : o.op = .call { callee := .builtin .append, args := #[s, x], argTypes := #[91, 91] })
    (B : Nat) (v : Value) (l : List PlL) (n : Nat) (hn : l.length = n) (hs : a.eval s = v) (f : PlL) (hb : w.ownsRow B 126 2 v n (plVals l)) (hB : B ≤ w.heap.size) (ad : Addr)
    (hx : a.eval x = .slice (some ad) 1 1) (h0 : w.cell? (ad.add 0) = some (.int .i64 (f.1 : Int))) (h1 : w.cell? (ad.add 1) = some (.int .i64 (f.2 : Int))) (hlen : n + 1 ≤ 1000000001)
    (h : ∀ g' c' w', w'.ownsRow B 126 2 (.slice (some ⟨g', 0, none⟩) (n + 1) c') (n + 1) (plVals (l ++ [f])) → w.grownBy w' v.ownBlock → K (a.put o.dst (.slice (some ⟨g', 0, none⟩) (n + 1) c')) w') :
    if Region.wanted o (yielded ops a.tmps) = true then Oper.wp Tryz.prog o a w K Q else E := by
  subst hn
  have hw : Region.wanted o (yielded ops a.tmps) = true := by simp [Region.wanted, hgd]
  rw [if_pos hw]
  obtain ⟨i0, hi, hz0, hz1, hz2⟩ := info_parts info_pl
  refine wp_append_own2 _ s x 91 ho B 126 i0 (.agg #[.int .i64 0, .int .i64 0]) 2 16 Tryz.underlying91 hi hz0 hz1 hz2 rfl (by decide) v l.length (plVals l) hs hb ad 1 1 [.int .i64 (f.1 : Int), .int .i64 (f.2 : Int)] hx rfl ?_ ?_ (by unfold maxLen; omega) (by omega) hB ?_
  · intro j u hj
    match j, hj with
    | 0, hj => simp at hj; subst hj; exact h0
    | 1, hj => simp at hj; subst hj; exact h1
    | (j + 2), hj => simp at hj
  · intro u hu; simp at hu; rcases hu with rfl | rfl <;> rfl
  · intro v' w' ho' hg hor
    rcases ho'.2 with ⟨_, h0⟩ | ⟨g', cap', cur, rfl, _⟩
    · cases h0
    · exact h g' cap' w' (by rw [plVals_append]; exact ho') hg
theorem Apart.none (ev lv : Value) : Apart (.slice none 0 0) (.slice none 0 0) ev lv := fun k h => by rcases h with h | h <;> cases h
theorem wr_cells {w : World} {b : Nat} {pv bv : Value} (i : Nat) (u : Value) (h : w.heap[b]? = some (.cells #[pv, bv] 93 (0, 0))) : (w.setCell ⟨b, i, none⟩ u).heap[b]? = some (.cells ((#[pv, bv] : Array Value).setIfInBounds i u) 93 (0, 0)) := heap_putP u h
theorem WrM.rows {B b : Nat} {pv bv : Value} {qs : List PgV} {bs : List PlL} {w w1 : World} {r : Option Nat} {T : TypeId} (h : WrM B b pv bv qs bs w) (hg : w.grownBy w1 r) (hr : ∀ k, r = some k → ∃ cur, w.heap[k]? = some (Obj.cells cur T (0, 0))) (hT : T ≠ 40 ∧ T ≠ 5) (u : Value) (i : Nat) :
    ∀ q ∈ qs, LnRow B q.ev q.p.1 (w1.setCell ⟨b, i, none⟩ u) ∧ ByRow B q.lv q.p.2 (w1.setCell ⟨b, i, none⟩ u) := fun q hq => by
  obtain ⟨r1, r2⟩ := h.each q hq
  have hne : ∀ {e : TypeId} {sz n : Nat} {v : Value} {xs : List Value}, w.ownsRow B e sz v n xs → e ≠ T → v.ownBlock = Option.none ∨ v.ownBlock ≠ r := fun {e sz n v xs} ho he => by
    cases hr2 : r with
    | none => cases hv : v.ownBlock <;> simp
    | some k =>
      obtain ⟨cur, hc⟩ := hr k hr2
      exact .inr (row_ne_page ho hc he)
  have k1 : LnRow B q.ev q.p.1 w1 := World.ownsRow.kept r1 hg (hne r1 hT.1.symm)
  have k2 : ByRow B q.lv q.p.2 w1 := World.ownsRow.kept r2 hg (hne r2 hT.2.symm)
  have hb1 : ∀ {e : TypeId} {sz n : Nat} {v : Value} {xs : List Value}, w.ownsRow B e sz v n xs → e ≠ 93 → v.ownBlock ≠ some b := fun ho he => row_ne_page ho h.blk he
  exact ⟨ownsRow_setCell_other k1 (hb1 r1 (by decide)) _, ownsRow_setCell_other k2 (hb1 r2 (by decide)) _⟩
theorem own_cells {w : World} {B : Nat} {e : TypeId} {sz n : Nat} {v : Value} {xs : List Value} (h : w.ownsRow B e sz v n xs) : ∀ k, v.ownBlock = some k → ∃ cur, w.heap[k]? = some (Obj.cells cur e (0, 0)) := fun k hk => by
  rcases h.2 with ⟨h0, _⟩ | ⟨g, cap, cur, h0, _, hh, _⟩
  · rw [h0] at hk; cases hk
  · rw [h0] at hk; injection hk with hk; subst hk; exact ⟨cur, hh⟩
theorem frl_grown {B b : Nat} {pv bv : Value} {qs : List PgV} {bs : List PlL} {w w1 : World} {r : Option Nat} {T : TypeId} (h : WrM B b pv bv qs bs w) (hg : w.grownBy w1 r) (hr : ∀ k, r = some k → B ≤ k ∧ ∃ cur, w.heap[k]? = some (Obj.cells cur T (0, 0))) (hT : T ≠ 115 ∧ T ≠ 33) (u : Value) (i : Nat) : FrL B w (w1.setCell ⟨b, i, none⟩ u) := by
  have hbs : ∀ k, k ≠ b → (w1.setCell ⟨b, i, none⟩ u).heap[k]? = w1.heap[k]? := fun k hk => Below.heap_setCell w1 ⟨b, i, none⟩ u k hk
  refine ⟨⟨hg.os, hg.tape, hg.output, by rw [World.size_setCell]; exact hg.size, fun k hk => ?_⟩, fun k cur T' fz hk hT' => ?_⟩
  · refine (hbs k (by have := h.Bb; omega)).trans (hg.block k (by have := h.Bb; have := h.lt; omega) (fun e => ?_))
    have := (hr k e.symm).1; omega
  · have hkb : k ≠ b := by
      rintro rfl
      exact block_ne hk h.blk (by rcases hT' with rfl | rfl <;> decide)
    refine (hbs k hkb).trans (hg.block k (lt_of_block hk) (fun e => ?_))
    obtain ⟨c2, hc2⟩ := (hr k e.symm).2
    exact block_ne hk hc2 (fun e2 => by
      rcases hT' with h0 | h0
      · exact hT.1 (e2.symm.trans h0)
      · exact hT.2 (e2.symm.trans h0))
theorem WrM.setBv {B b : Nat} {pv bv bv' : Value} {qs : List PgV} {bs : List PlL} {w w1 : World} {pl : PlL} (h : WrM B b pv bv qs bs w) (ho : w1.ownsRow B 126 2 bv' (bs.length + 1) (plVals (bs.reverse ++ [pl]))) (hg : w.grownBy w1 bv.ownBlock) :
    WrM B b pv bv' qs (pl :: bs) (w1.setCell ⟨b, 1, none⟩ bv') ∧ FrL B w (w1.setCell ⟨b, 1, none⟩ bv') := by
  have hne := row_ne_page h.pls h.blk (by decide)
  have hb1 : w1.heap[b]? = some (.cells #[pv, bv] 93 (0, 0)) := (hg.block b h.lt (fun e => hne e.symm)).trans h.blk
  have hpg : w1.ownsRow B 124 2 pv qs.length (pgVals qs.reverse) := h.pgs.kept hg (ownsRow_diff (by decide) h.pgs h.pls)
  refine ⟨⟨wr_cells 1 bv' hb1, ownsRow_setCell_other hpg (row_ne_page hpg hb1 (by decide)) _, ?_, h.rows hg (own_cells h.pls) (by decide) _ _, h.apart, h.Bb⟩, frl_grown h hg (fun k e => ⟨(h.pls.lt k e).1, own_cells h.pls k e⟩) (by decide) _ _⟩
  have ho2 := ownsRow_setCell_other ho (a := ⟨b, 1, none⟩) (row_ne_page ho hb1 (by decide)) bv'
  rw [List.reverse_cons]
  exact ho2
theorem WrM.setPv {B b : Nat} {pv bv pv' : Value} {qs : List PgV} {bs : List PlL} {w w1 : World} (h : WrM B b pv bv qs bs w) (ho : w1.ownsRow B 124 2 pv' (qs.length + 1) (pgVals (qs.reverse ++ [⟨([], []), .slice none 0 0, .slice none 0 0⟩]))) (hg : w.grownBy w1 pv.ownBlock) :
    WrM B b pv' bv (⟨([], []), .slice none 0 0, .slice none 0 0⟩ :: qs) bs (w1.setCell ⟨b, 0, none⟩ pv') ∧ FrL B w (w1.setCell ⟨b, 0, none⟩ pv') := by
  have hne := row_ne_page h.pgs h.blk (by decide)
  have hb1 : w1.heap[b]? = some (.cells #[pv, bv] 93 (0, 0)) := (hg.block b h.lt (fun e => hne e.symm)).trans h.blk
  have hpl : w1.ownsRow B 126 2 bv bs.length (plVals bs.reverse) := h.pls.kept hg (ownsRow_diff (by decide) h.pls h.pgs)
  refine ⟨⟨wr_cells 0 pv' hb1, ?_, ownsRow_setCell_other hpl (row_ne_page hpl hb1 (by decide)) _, fun q hq => ?_, List.pairwise_cons.2 ⟨fun q _ => Apart.none _ _, h.apart⟩, h.Bb⟩, frl_grown h hg (fun k e => ⟨(h.pgs.lt k e).1, own_cells h.pgs k e⟩) (by decide) _ _⟩
  · have ho2 := ownsRow_setCell_other ho (a := ⟨b, 0, none⟩) (row_ne_page ho hb1 (by decide)) pv'
    rw [List.reverse_cons]
    exact ho2
  · rcases List.mem_cons.1 hq with rfl | hq
    · exact ⟨World.ownsRow_nil _ _ _ 2, World.ownsRow_nil _ _ _ 1⟩
    · exact h.rows hg (own_cells h.pgs) (by decide) _ _ q hq
theorem row_less {w : World} {B : Nat} {e : TypeId} {g n c : Nat} {xs ys : List Value} (h : w.ownsRow B e 2 (.slice (some ⟨g, 0, none⟩) (n + 1) c) (n + 1) (xs ++ ys)) (hx : xs.length = n * 2) : w.ownsRow B e 2 (.slice (some ⟨g, 0, none⟩) n c) n xs := by
  refine ⟨hx, .inr ?_⟩
  rcases h.2 with ⟨h0, _⟩ | ⟨g', cap, cur, h0, h1, h2, h3, h4, h5, h6⟩
  · cases h0
  · injection h0 with e1 e2 e3
    injection e1 with e1
    injection e1 with e1
    subst e1 e3
    refine ⟨g, c, cur, rfl, h1, h2, by omega, h4, h5, ?_⟩
    have := congrArg (List.take (n * 2)) h6
    rw [List.take_take, Nat.min_eq_left (by omega), List.take_left' hx] at this
    exact this
theorem WrM.popB {B b g c : Nat} {pv : Value} {qs : List PgV} {a : PlL} {bs : List PlL} {w : World} (h : WrM B b pv (.slice (some ⟨g, 0, none⟩) (bs.length + 1) c) qs (a :: bs) w) :
    WrM B b pv (.slice (some ⟨g, 0, none⟩) bs.length c) qs bs (w.setCell ⟨b, 1, none⟩ (.slice (some ⟨g, 0, none⟩) bs.length c)) ∧ FrL B w (w.setCell ⟨b, 1, none⟩ (.slice (some ⟨g, 0, none⟩) bs.length c)) := by
  have hg : w.grownBy w (none : Option Nat) := ⟨rfl, rfl, rfl, Nat.le_refl _, fun _ _ _ => rfl⟩
  have hp := h.pls
  rw [List.reverse_cons, plVals_append] at hp
  have hpl := row_less hp (by rw [plVals_length, List.length_reverse])
  refine ⟨⟨wr_cells 1 _ h.blk, ownsRow_setCell_other h.pgs (row_ne_page h.pgs h.blk (by decide)) _, ownsRow_setCell_other hpl (row_ne_page hpl h.blk (by decide)) _, h.rows (T := 126) hg (fun k e => by cases e) (by decide) _ _, h.apart, h.Bb⟩, frl_grown (T := 126) h hg (fun k e => by cases e) (by decide) _ _⟩
theorem WrM.popP {B b g c : Nat} {bv : Value} {q : PgV} {rest : List PgV} {bs : List PlL} {w : World} (h : WrM B b (.slice (some ⟨g, 0, none⟩) (rest.length + 1) c) bv (q :: rest) bs w) :
    WrM B b (.slice (some ⟨g, 0, none⟩) rest.length c) bv rest bs (w.setCell ⟨b, 0, none⟩ (.slice (some ⟨g, 0, none⟩) rest.length c)) ∧ FrL B w (w.setCell ⟨b, 0, none⟩ (.slice (some ⟨g, 0, none⟩) rest.length c)) := by
  have hg : w.grownBy w (none : Option Nat) := ⟨rfl, rfl, rfl, Nat.le_refl _, fun _ _ _ => rfl⟩
  have hp := h.pgs
  rw [List.reverse_cons, pgVals_append] at hp
  have hpl := row_less hp (by rw [pgVals_length, List.length_reverse])
  refine ⟨⟨wr_cells 0 _ h.blk, ownsRow_setCell_other hpl (row_ne_page hpl h.blk (by decide)) _, ownsRow_setCell_other h.pls (row_ne_page h.pls h.blk (by decide)) _, fun r hr => h.rows (T := 126) hg (fun k e => by cases e) (by decide) _ _ r (List.mem_cons_of_mem _ hr), (List.pairwise_cons.1 h.apart).2, h.Bb⟩, frl_grown (T := 126) h hg (fun k e => by cases e) (by decide) _ _⟩
def WrInv (B b : Nat) (s : WS) (w : World) : Prop := ∃ pv bv qs, WrM B b pv bv qs s.2.1 w ∧ qs.map PgV.p = s.1 ∧ OKW s
theorem WrM.level {B b : Nat} {pv bv : Value} {qs : List PgV} {bs : List PlL} {w w' : World} {row : Option Nat} (h : WrM B b pv bv qs bs w) (hg : w.grownBy w' row) (hr : ∀ k, row = some k → B ≤ k ∧ ∃ cur, w.heap[k]? = some (Obj.cells cur 115 (0, 0))) : WrM B b pv bv qs bs w' := by
  have hne : ∀ {e : TypeId} {sz n : Nat} {v : Value} {xs : List Value}, w.ownsRow B e sz v n xs → e ≠ 115 → v.ownBlock = Option.none ∨ v.ownBlock ≠ row := fun {e sz n v xs} ho he => by
    cases hr2 : row with
    | none => cases hv : v.ownBlock <;> simp
    | some k =>
      obtain ⟨cur, hc⟩ := (hr k hr2).2
      exact .inr (row_ne_page ho hc he)
  refine ⟨(hg.block b h.lt (fun e => ?_)).trans h.blk, h.pgs.kept hg (hne h.pgs (by decide)), h.pls.kept hg (hne h.pls (by decide)), fun q hq => ⟨World.ownsRow.kept (h.each q hq).1 hg (hne (h.each q hq).1 (by decide)), World.ownsRow.kept (h.each q hq).2 hg (hne (h.each q hq).2 (by decide))⟩, h.apart, h.Bb⟩
  obtain ⟨cur, hc⟩ := (hr b e.symm).2
  exact block_ne h.blk hc (by decide)
theorem wr_inv (B b : Nat) : InvOK B (WrInv B b) := fun s w w' row ⟨pv, bv, qs, h, hm, ho⟩ hg hr => ⟨pv, bv, qs, h.level hg hr, hm, ho⟩
end Go.Proofs.YtiejmkjpgjbodaaGreatDoor

namespace Go.Proofs.YtiejmkjpgjbodaaGreatDoor
open Go.RowKit
set_option linter.unusedVariables false
set_option linter.unusedSimpArgs false
set_option maxRecDepth 100000
theorem ok_page {p : PgL} {ps : List PgL} {bs : List PlL} {g : Nat} (h : OKW (p :: ps, bs, g)) : p.1.length ≤ g ∧ p.2.length ≤ g * 2000010 ∧ ps.length ≤ g ∧ bs.length ≤ g + 1 ∧ PgOK p := by
  obtain ⟨h1, h2, h3, h4, h5⟩ := h
  simp only [lnsW, bytW, List.map_cons, List.sum_cons, List.length_cons] at h2 h3 h4 h5
  have hr : p.2.length ≤ (render p).length := by unfold render; rw [List.length_append]; omega
  exact ⟨by omega, by omega, by omega, h5, h1 p (List.mem_cons_self ..)⟩
theorem beq_dec (a b : List UInt8) : (a == b) = decide (a = b) := by
  by_cases h : a = b
  · rw [decide_eq_true h, h]; exact beq_self_eq_true _
  · rw [decide_eq_false h]; exact beq_eq_false_iff_ne.2 h
theorem innerB_any {B b : Nat} {bv : Value} {q : PgV} {rest : List PgV} {bs : List PlL} {w : World} {g c : Nat} (h : WrM B b (.slice (some ⟨g, 0, none⟩) (rest.length + 1) c) bv (q :: rest) bs w) (hn : rest.length ≤ 1000000000) {w1 : World} (hb : Below w.heap.size w w1) :
    Calls Tryz.prog 69 #[.pointer (some ⟨b, 0, none⟩)] w1 fun e w' => e = .returned (.pointer (some ⟨g, rest.length * 2, none⟩)) ∧ Below w1.heap.size w1 w' := by
  refine (inner_any B b _ bv q rest bs w1 (h.kept hb) g c rfl hn).mono ?_
  rintro e w' ⟨rfl, m, rfl⟩
  exact ⟨rfl, rfl, rfl, rfl, Nat.le_refl _, fun _ _ => rfl⟩
theorem WrM.pg {B b g c : Nat} {bv : Value} {q : PgV} {rest : List PgV} {bs : List PlL} {w : World} (h : WrM B b (.slice (some ⟨g, 0, none⟩) (rest.length + 1) c) bv (q :: rest) bs w) : PgW B g (rest.length * 2) q.p q.ev q.lv w := by
  obtain ⟨g', c', e, _, _, hp⟩ := h.page
  injection e with e1 _ _
  injection e1 with e1
  injection e1 with e1
  subst e1
  exact hp
theorem WrM.bform {B b : Nat} {pv bv : Value} {qs : List PgV} {bs : List PlL} {w : World} (h : WrM B b pv bv qs bs w) : ∃ A c, bv = .slice A bs.length c := by
  rcases h.pls.2 with ⟨rfl, h0⟩ | ⟨g, cap, cur, rfl, _⟩
  · rw [h0]; exact ⟨_, _, rfl⟩
  · exact ⟨_, _, rfl⟩
set_option maxHeartbeats 4000000 in
theorem beg_any (B b : Nat) : BegOKb B 67 (.pointer (some ⟨b, 0, none⟩)) (WrInv B b) bgW dvW (fun s => s.2.2) 1000000 (fun _ _ => True) := by
  intro s w nd K av A m c hI hB _ hA hK hm
  obtain ⟨pv, bv, qs, hw, hmap, hok⟩ := hI
  obtain ⟨ps, bs, gh⟩ := s
  simp only at hmap
  cases qs with
  | nil =>
    simp only [List.map_nil] at hmap
    subst hmap
    exact absurd hm (by show ¬ gh + 2000000 ≤ 1000000; omega)
  | cons q rest =>
  cases bs with
  | nil =>
    subst hmap
    exact absurd hm (by show ¬ gh + 2000000 ≤ 1000000; omega)
  | cons a bs =>
  simp only [List.map_cons] at hmap
  subst hmap
  have hgb := bgW_le (q.p :: rest.map PgV.p, a :: bs, gh) nd K
  have hok2 := OKW.bg hok nd K hm
  obtain ⟨k1, k2, k3, k4, k5⟩ := ok_page hok
  rw [List.length_map] at k3
  have hgm : gh ≤ 1000000 := Nat.le_trans hgb hm
  obtain ⟨g, cp, rfl, hc1, hc2, hp⟩ := hw.page
  simp only at hw
  obtain ⟨w1, hw1⟩ : ∃ w1, w.alloc (Obj.cells #[.string (str nd.name), av, .string (str nd.text), .slice A m c] 33) = w1 := ⟨_, rfl⟩
  have hb1 : Below w.heap.size w w1 := by rw [← hw1]; exact below_one w _
  have hx1 : w1.heap[w.heap.size]? = some (Obj.cells #[.string (str nd.name), av, .string (str nd.text), .slice A m c] 33 (0, 0)) := by rw [← hw1]; exact heap_alloc_new w _
  have b0 : w1.cell? ⟨w.heap.size, 0, none⟩ = some (.string (str nd.name)) := (Lib.cell_of_heap hx1 0).trans rfl
  have b2 : w1.cell? ⟨w.heap.size, 2, none⟩ = some (.string (str nd.text)) := (Lib.cell_of_heap hx1 2).trans rfl
  have b3 : w1.cell? ⟨w.heap.size, 3, none⟩ = some (.slice A m c) := (Lib.cell_of_heap hx1 3).trans rfl
  have HW1 := hide (hw.kept hb1)
  have HF1 : Hid (FrL B w w1) := hide (FrL.kept hb1 hB)
  have HX1 := hide hx1
  have HRL : Hid (rest.length ≤ 1000000000) := hide (by omega)
  have HRS : Hid (rest.length ≤ 1000000) := hide (by omega)
  have HBL : Hid ((a :: bs).length + 1 ≤ 1000000001) := hide (by omega)
  have HKK := hide (And.intro k1 (And.intro k2 hgm))
  have HOK2 := hide hok2
  unfold ndV
  have e0 : ∀ l : List UInt8, (str nd.name).toList.isEmpty = l.isEmpty → True := fun _ _ => trivial
  have n0 : (str nd.name).toList.isEmpty = decide (nd.name = []) := by rw [str_list]; cases nd.name <;> rfl
  have n1 : ((str nd.name).toList == [98, 114]) = decide (nd.name = brN) := by rw [str_list]; exact beq_dec _ _
  have n2 : ((str nd.name).toList == [98, 108, 111, 99, 107, 113, 117, 111, 116, 101]) = decide (nd.name = quoN) := by rw [str_list]; exact beq_dec _ _
  clear e0 hA hK hok hp hx1 hb1 k1 k2 k3 k4 k5 hgb hc1 hc2 hw
  by_cases hn : nd.name = []
  · rw [decide_eq_true hn] at n0
    have hbg : bgW (q.p :: rest.map PgV.p, a :: bs, gh) nd K = (putS q.p nd.text :: rest.map PgV.p, place (putS q.p nd.text) :: a :: bs, gh + nd.text.length + 2) := by simp only [bgW, if_pos hn]
    have hdv : dvW nd = false := by unfold dvW; rw [hn]; rfl
    rw [hbg] at HOK2 hm ⊢
    rw [hdv]
    simp only at hm
    have HWR : Hid (∀ w2, Below w1.heap.size w1 w2 → Calls Tryz.prog 106 #[.pointer (some ⟨g, rest.length * 2, none⟩), .string (str nd.text)] w2 fun e w' => e = .returned (.tuple #[]) ∧ ∃ ev' lv', PgW B g (rest.length * 2) (putS q.p nd.text) ev' lv' w' ∧ PgF g (rest.length * 2) q.ev q.lv ev' lv' w2 w') := hide (fun w2 hb => by
      have := write_any B g (rest.length * 2) q.p q.ev q.lv (str nd.text) w2 (HW1.out.pg.kept hb) (by rw [str_size]; omega) (by rw [str_size]; have := HKK.out; exact ⟨by omega, by omega⟩)
      rw [str_toList] at this; exact this)
    have HIN0 : Hid (∀ w2, Below w1.heap.size w1 w2 → Calls Tryz.prog 69 #[.pointer (some ⟨b, 0, none⟩)] w2 fun e w' => e = .returned (.pointer (some ⟨g, rest.length * 2, none⟩)) ∧ Below w2.heap.size w2 w') := hide (fun w2 hb => innerB_any HW1.out HRL.out hb)
    have HW1D : Hid (Below w1.heap.size w1 w1.drew) := hide (Below.refl _ _).drew
    obtain ⟨X, hX⟩ : ∃ X, X = str nd.text := ⟨_, rfl⟩
    rw [← hX] at b2 HWR HX1 hw1 ⊢
    have b2d : w1.drew.cell? ⟨w.heap.size, 2, none⟩ = some (.string X) := b2
    have HB2 := hide b2
    clear hn hbg hX n1 n2 b3
    go_enter Tryz.func67, Tryz.ntmps67
    go_wp2_with fail
    go_region_law (first
      | (go_simp; (with_reducible refine (HIN0.out _ HW1D.out).mono ?_); rintro e w2 ⟨rfl, hb2⟩; have HB2A := hide (HW1D.out.trans (hb2.mono HW1D.out.size)); have z2 : w2.cell? ⟨w.heap.size, 2, none⟩ = some (.string X) := (HB2A.out.cell (World.block_lt_of_cell? _ _ HB2.out)).trans HB2.out; clear hb2)
      | (go_simp; (with_reducible refine (HWR.out _ HB2A.out).mono ?_); rintro e w3 ⟨rfl, e3, l3, hp3, hf3⟩; have HP3 := hide hp3; have HG3 := hide hf3; clear hp3 hf3))
    all_goals
      have HWM := hide ((HW1.out.kept HB2A.out).turned (HW1.out.pg.kept HB2A.out) HP3.out HG3.out)
      have HFR : Hid (FrL B w w3) := hide (HF1.out.trans ((FrL.kept HB2A.out (Nat.le_trans HW1.out.Bb (Nat.le_of_lt HW1.out.lt))).trans (HG3.out.frl (HW1.out.pg.kept HB2A.out))))
      obtain ⟨Ab, cb, hbv⟩ := HWM.out.bform
      subst hbv
      have HIN : Hid (∀ wz, Below w3.heap.size w3 wz → Calls Tryz.prog 69 #[.pointer (some ⟨b, 0, none⟩)] wz fun e w' => e = .returned (.pointer (some ⟨g, rest.length * 2, none⟩)) ∧ Below wz.heap.size wz w') := hide (fun wz hb => innerB_any HWM.out HRL.out hb)
      have HPL : Hid (∀ wz, Below w3.heap.size w3 wz → Calls Tryz.prog 108 #[.pointer (some ⟨g, rest.length * 2, none⟩)] wz fun e w' => e = .returned (.agg #[.int .i64 ((place (⟨putS q.p nd.text, e3, l3⟩ : PgV).p).1 : Int), .int .i64 ((place (⟨putS q.p nd.text, e3, l3⟩ : PgV).p).2 : Int)]) ∧ Below wz.heap.size wz w') := hide (fun wz hb => place_any B g _ (⟨putS q.p nd.text, e3, l3⟩ : PgV).p (⟨putS q.p nd.text, e3, l3⟩ : PgV).ev (⟨putS q.p nd.text, e3, l3⟩ : PgV).lv _ (HWM.out.pg.kept hb))
      obtain ⟨PLC, hPLC⟩ : ∃ P, P = place (⟨putS q.p nd.text, e3, l3⟩ : PgV).p := ⟨_, rfl⟩
      rw [← hPLC] at HPL
      have HPC := hide hPLC
      obtain ⟨-, c1, -⟩ := HWM.out.cells
      have HC1 := hide c1
      have c1d : w3.drew.cell? ⟨b, 1, none⟩ = some (.slice Ab (a :: bs).length cb) := c1
      have HWD : Hid (Below w3.heap.size w3 w3.drew) := hide (Below.refl _ _).drew
      clear hPLC c1
      go_wp2_with fail
      go_region_law (first
        | (refine step_pls rfl _ _ rfl B (.slice Ab (a :: bs).length cb) (a :: bs).reverse (a :: bs).length List.length_reverse rfl PLC ((HWM.out.kept (HB5.out.trans ((below_one w5 _).mono HB5.out.size))).pls) (Nat.le_trans (Nat.le_trans HWM.out.Bb (Nat.le_of_lt HWM.out.lt)) (Nat.le_trans HB5.out.size (below_one w5 _).size)) _ rfl (two_ln _ _ _ _).1 (two_ln _ _ _ _).2 HBL.out ?_
           intro g6 c6 w6 ho6 hg6
           have hW : Below w3.heap.size w3 (w5.alloc (.cells #[.int .i64 (PLC.1 : Int), .int .i64 (PLC.2 : Int)] 126)) := HB5.out.trans ((below_one w5 _).mono HB5.out.size)
           obtain ⟨x6, y6⟩ : w6.cell? ⟨b, 1, none⟩ = some (.slice Ab (a :: bs).length cb) ∧ w6.frozen? ⟨b, 1, none⟩ = false := by
             have hk := HWM.out.kept hW
             have hb := (hg6.block b hk.lt (fun e => row_ne_page hk.pls hk.blk (by decide) e.symm)).trans hk.blk
             exact ⟨(Lib.cell_of_heap hb 1).trans rfl, Lib.frozen_of_heap hb 1⟩
           have HO6 := hide (HWM.out.setBv ho6 (grown_after hW hg6))
           clear ho6 hg6 hW)
        | (go_simp; (with_reducible refine (HIN.out _ HWD.out).mono ?_); rintro e w4 ⟨rfl, hb4⟩; have HB4 := hide (HWD.out.trans (hb4.mono HWD.out.size)); have z4 : w4.cell? ⟨b, 1, none⟩ = some (.slice Ab (a :: bs).length cb) := (HB4.out.cell (World.block_lt_of_cell? _ _ HC1.out)).trans HC1.out; clear hb4)
        | (go_simp; (with_reducible refine (HPL.out _ HB4.out).mono ?_); rintro e w5 ⟨rfl, hb5⟩; have HB5 := hide (HB4.out.trans (hb5.mono HB4.out.size)); have z5 : w5.cell? ⟨b, 1, none⟩ = some (.slice Ab (a :: bs).length cb) := (HB5.out.cell (World.block_lt_of_cell? _ _ HC1.out)).trans HC1.out; have z5a : ∀ ob, (w5.alloc ob).cell? ⟨b, 1, none⟩ = some (.slice Ab (a :: bs).length cb) := fun ob => ((below_one w5 ob).cell (World.block_lt_of_cell? _ _ z5)).trans z5; clear hb5))
      all_goals
        go_wp2_with fail
        go_ret
        exact ⟨rfl, ⟨_, _, _, by have hh := HO6.out.1; rw [HPC.out] at hh; exact hh, rfl, HOK2.out⟩, HFR.out.trans HO6.out.2⟩
  · rw [decide_eq_false hn] at n0
    by_cases hbr : nd.name = brN
    · rw [decide_eq_true hbr] at n1
      have hbg : bgW (q.p :: rest.map PgV.p, a :: bs, gh) nd K = (putS q.p [10] :: rest.map PgV.p, place (putS q.p [10]) :: a :: bs, gh + 2) := by simp only [bgW, if_neg hn, if_pos hbr]
      have hdv : dvW nd = false := by unfold dvW; rw [decide_eq_false (not_not_intro hbr)]; exact Bool.and_false _
      rw [hbg] at HOK2 hm ⊢
      rw [hdv]
      have HIN0 : Hid (∀ w2, Below w1.heap.size w1 w2 → Calls Tryz.prog 69 #[.pointer (some ⟨b, 0, none⟩)] w2 fun e w' => e = .returned (.pointer (some ⟨g, rest.length * 2, none⟩)) ∧ Below w2.heap.size w2 w') := hide (fun w2 hb => innerB_any HW1.out HRL.out hb)
      have HWR : Hid (∀ w2, Below w1.heap.size w1 w2 → Calls Tryz.prog 106 #[.pointer (some ⟨g, rest.length * 2, none⟩), .string ⟨#[10]⟩] w2 fun e w' => e = .returned (.tuple #[]) ∧ ∃ ev' lv', PgW B g (rest.length * 2) (putS q.p [10]) ev' lv' w' ∧ PgF g (rest.length * 2) q.ev q.lv ev' lv' w2 w') := hide (fun w2 hb => write_any B g (rest.length * 2) q.p q.ev q.lv ⟨#[10]⟩ w2 (HW1.out.pg.kept hb) (by decide) (by have := HKK.out; exact ⟨by show q.p.1.length + 1 ≤ _; omega, by show q.p.2.length + 1 ≤ _; omega⟩))
      clear hn hbr hbg n2 b2 b3
      go_enter Tryz.func67, Tryz.ntmps67
      go_wp2_with fail
      refine (HIN0.out w1 (Below.refl _ _)).mono ?_
      rintro e w2 ⟨rfl, hb2⟩
      have HB2A := hide hb2
      clear hb2
      go_wp2_with fail
      refine (HWR.out w2 HB2A.out).mono ?_
      rintro e w3 ⟨rfl, e3, l3, hp3, hf3⟩
      have HP3 := hide hp3
      have HG3 := hide hf3
      clear hp3 hf3
      have HWM := hide ((HW1.out.kept HB2A.out).turned (HW1.out.pg.kept HB2A.out) HP3.out HG3.out)
      have HFR : Hid (FrL B w w3) := hide (HF1.out.trans ((FrL.kept HB2A.out (Nat.le_trans HW1.out.Bb (Nat.le_of_lt HW1.out.lt))).trans (HG3.out.frl (HW1.out.pg.kept HB2A.out))))
      obtain ⟨Ab, cb, hbv⟩ := HWM.out.bform
      subst hbv
      have HIN : Hid (∀ wz, Below w3.heap.size w3 wz → Calls Tryz.prog 69 #[.pointer (some ⟨b, 0, none⟩)] wz fun e w' => e = .returned (.pointer (some ⟨g, rest.length * 2, none⟩)) ∧ Below wz.heap.size wz w') := hide (fun wz hb => innerB_any HWM.out HRL.out hb)
      have HPL : Hid (∀ wz, Below w3.heap.size w3 wz → Calls Tryz.prog 108 #[.pointer (some ⟨g, rest.length * 2, none⟩)] wz fun e w' => e = .returned (.agg #[.int .i64 ((place (⟨putS q.p [10], e3, l3⟩ : PgV).p).1 : Int), .int .i64 ((place (⟨putS q.p [10], e3, l3⟩ : PgV).p).2 : Int)]) ∧ Below wz.heap.size wz w') := hide (fun wz hb => place_any B g _ (⟨putS q.p [10], e3, l3⟩ : PgV).p (⟨putS q.p [10], e3, l3⟩ : PgV).ev (⟨putS q.p [10], e3, l3⟩ : PgV).lv _ (HWM.out.pg.kept hb))
      obtain ⟨PLC, hPLC⟩ : ∃ P, P = place (⟨putS q.p [10], e3, l3⟩ : PgV).p := ⟨_, rfl⟩
      rw [← hPLC] at HPL
      have HPC := hide hPLC
      obtain ⟨-, c1, -⟩ := HWM.out.cells
      have HC1 := hide c1
      have c1d : w3.drew.cell? ⟨b, 1, none⟩ = some (.slice Ab (a :: bs).length cb) := c1
      have HWD : Hid (Below w3.heap.size w3 w3.drew) := hide (Below.refl _ _).drew
      clear hPLC c1
      go_wp2_with fail
      go_region_law (first
        | (refine step_pls rfl _ _ rfl B (.slice Ab (a :: bs).length cb) (a :: bs).reverse (a :: bs).length List.length_reverse rfl PLC ((HWM.out.kept (HB5.out.trans ((below_one w5 _).mono HB5.out.size))).pls) (Nat.le_trans (Nat.le_trans HWM.out.Bb (Nat.le_of_lt HWM.out.lt)) (Nat.le_trans HB5.out.size (below_one w5 _).size)) _ rfl (two_ln _ _ _ _).1 (two_ln _ _ _ _).2 HBL.out ?_
           intro g6 c6 w6 ho6 hg6
           have hW : Below w3.heap.size w3 (w5.alloc (.cells #[.int .i64 (PLC.1 : Int), .int .i64 (PLC.2 : Int)] 126)) := HB5.out.trans ((below_one w5 _).mono HB5.out.size)
           obtain ⟨x6, y6⟩ : w6.cell? ⟨b, 1, none⟩ = some (.slice Ab (a :: bs).length cb) ∧ w6.frozen? ⟨b, 1, none⟩ = false := by
             have hk := HWM.out.kept hW
             have hb := (hg6.block b hk.lt (fun e => row_ne_page hk.pls hk.blk (by decide) e.symm)).trans hk.blk
             exact ⟨(Lib.cell_of_heap hb 1).trans rfl, Lib.frozen_of_heap hb 1⟩
           have HO6 := hide (HWM.out.setBv ho6 (grown_after hW hg6))
           clear ho6 hg6 hW)
        | (go_simp; (with_reducible refine (HIN.out _ HWD.out).mono ?_); rintro e w4 ⟨rfl, hb4⟩; have HB4 := hide (HWD.out.trans (hb4.mono HWD.out.size)); have z4 : w4.cell? ⟨b, 1, none⟩ = some (.slice Ab (a :: bs).length cb) := (HB4.out.cell (World.block_lt_of_cell? _ _ HC1.out)).trans HC1.out; clear hb4)
        | (go_simp; (with_reducible refine (HPL.out _ HB4.out).mono ?_); rintro e w5 ⟨rfl, hb5⟩; have HB5 := hide (HB4.out.trans (hb5.mono HB4.out.size)); have z5 : w5.cell? ⟨b, 1, none⟩ = some (.slice Ab (a :: bs).length cb) := (HB5.out.cell (World.block_lt_of_cell? _ _ HC1.out)).trans HC1.out; have z5a : ∀ ob, (w5.alloc ob).cell? ⟨b, 1, none⟩ = some (.slice Ab (a :: bs).length cb) := fun ob => ((below_one w5 ob).cell (World.block_lt_of_cell? _ _ z5)).trans z5; clear hb5))
      all_goals
        go_wp2_with fail
        go_ret
        exact ⟨rfl, ⟨_, _, _, by have hh := HO6.out.1; rw [HPC.out] at hh; exact hh, rfl, HOK2.out⟩, HFR.out.trans HO6.out.2⟩
    · rw [decide_eq_false hbr] at n1
      have hdv : dvW nd = true := by unfold dvW; rw [decide_eq_true hn, decide_eq_true hbr]; rfl
      rw [hdv, if_pos rfl]
      by_cases hq : nd.name = quoN
      · rw [decide_eq_true hq] at n2
        have hbg : bgW (q.p :: rest.map PgV.p, a :: bs, gh) nd K = (([], []) :: endLn q.p a :: rest.map PgV.p, (0, 0) :: a :: bs, gh + 2) := by simp only [bgW, if_neg hn, if_neg hbr, if_pos hq]
        rw [hbg] at HOK2 hm ⊢
        have HEL := hide (endLine_any B b _ bv q rest a bs w1 HW1.out HRL.out (by have := HBL.out; simp only [List.length_cons] at this; omega) (by have := HKK.out; exact ⟨by omega, by omega⟩))
        have HX2 : Hid (w1.heap[w.heap.size]? = some (Obj.cells #[.string (str nd.name), av, .string (str nd.text), .slice A m c] 33 (0, 0))) := HX1
        clear hn hbr hq hbg b2 b3
        go_enter Tryz.func67, Tryz.ntmps67
        go_wp2_with fail
        refine HEL.out.mono ?_
        rintro e v2 ⟨rfl, e2, l2, hw2, hf2⟩
        obtain ⟨x0, -, x2⟩ := hw2.cells
        have x2' := x2 0
        have HW2 := hide hw2
        have HF2 := hide (HF1.out.trans hf2)
        have HXX : Hid (v2.heap[w.heap.size]? = some (Obj.cells #[.string (str nd.name), av, .string (str nd.text), .slice A m c] 33 (0, 0))) := hide ((hf2.2 _ _ _ _ HX2.out (.inr rfl)).trans HX2.out)
        have HRL1 : Hid (rest.length + 1 + 1 ≤ 1000000001) := hide (by have := HRS.out; omega)
        clear hw2 hf2 x2
        go_wp2_with (
          refine wpList_pgs rfl _ _ rfl B (.slice (some ⟨g, 0, none⟩) (rest.length + 1) cp) (⟨endLn q.p a, e2, l2⟩ :: rest).reverse (rest.length + 1) (by simp) rfl (HW2.out.kept (below_one v2 _)).pgs (Nat.le_trans (Nat.le_trans HW2.out.Bb (Nat.le_of_lt HW2.out.lt)) (below_one v2 _).size) _ rfl (two_ln _ _ _ _).1 (two_ln _ _ _ _).2 HRL1.out ?_
          intro g3 c3 v3 ho3 hg3
          have hk := HW2.out.kept (below_one v2 (.cells #[.slice none 0 0, .slice none 0 0] 124))
          obtain ⟨y0, y1⟩ : v3.cell? ⟨b, 0, none⟩ = some (.slice (some ⟨g, 0, none⟩) (rest.length + 1) cp) ∧ v3.frozen? ⟨b, 0, none⟩ = false := by
            have hb := (hg3.block b hk.lt (fun e => row_ne_page hk.pgs hk.blk (by decide) e.symm)).trans hk.blk
            exact ⟨(Lib.cell_of_heap hb 0).trans rfl, Lib.frozen_of_heap hb 0⟩
          have HO3 := hide (HW2.out.setPv ho3 (grown_after (below_one v2 (.cells #[.slice none 0 0, .slice none 0 0] 124)) hg3))
          have z3 : (v3.setCell ⟨b, 0, none⟩ (.slice (some ⟨g3, 0, none⟩) (rest.length + 1 + 1) c3)).cell? ⟨w.heap.size, 3, none⟩ = some (.slice A m c) := (Lib.cell_of_heap ((HO3.out.2.2 _ _ _ _ HXX.out (.inr rfl)).trans HXX.out) 3).trans rfl
          clear ho3 hg3 hk)
        generalize (v3.setCell ⟨b, 0, none⟩ (.slice (some ⟨g3, 0, none⟩) (rest.length + 1 + 1) c3)) = v4 at HO3 z3 ⊢
        clear y0 y1 x0 x2'
        have HWM := hide HO3.out.1
        have HFR : Hid (FrL B w v4) := hide (HF2.out.trans HO3.out.2)
        obtain ⟨R2, hR2⟩ : ∃ R, R = (⟨endLn q.p a, e2, l2⟩ :: rest : List PgV) := ⟨_, rfl⟩
        have hRl : R2.length = rest.length + 1 := by rw [hR2]; rfl
        have HRM : Hid (R2.map PgV.p = endLn q.p a :: rest.map PgV.p) := hide (by rw [hR2]; rfl)
        rw [← hR2] at HWM
        rw [← hRl] at HWM ⊢
        replace HRL : Hid (R2.length ≤ 1000000000) := hide (by have := HKK.out; rw [hRl]; have := HRL1.out; omega)
        clear hR2 hRl HO3
        obtain ⟨Ab, cb, hbv⟩ := HWM.out.bform
        subst hbv
        have HIN : Hid (∀ wz, Below v4.heap.size v4 wz → Calls Tryz.prog 69 #[.pointer (some ⟨b, 0, none⟩)] wz fun e w' => e = .returned (.pointer (some ⟨g3, R2.length * 2, none⟩)) ∧ Below wz.heap.size wz w') := hide (fun wz hb => innerB_any HWM.out HRL.out hb)
        have HPL : Hid (∀ wz, Below v4.heap.size v4 wz → Calls Tryz.prog 108 #[.pointer (some ⟨g3, R2.length * 2, none⟩)] wz fun e w' => e = .returned (.agg #[.int .i64 ((place (⟨([], []), .slice none 0 0, .slice none 0 0⟩ : PgV).p).1 : Int), .int .i64 ((place (⟨([], []), .slice none 0 0, .slice none 0 0⟩ : PgV).p).2 : Int)]) ∧ Below wz.heap.size wz w') := hide (fun wz hb => place_any B g3 _ (⟨([], []), .slice none 0 0, .slice none 0 0⟩ : PgV).p (⟨([], []), .slice none 0 0, .slice none 0 0⟩ : PgV).ev (⟨([], []), .slice none 0 0, .slice none 0 0⟩ : PgV).lv _ (HWM.out.pg.kept hb))
        obtain ⟨PLC, hPLC⟩ : ∃ P, P = place (⟨([], []), .slice none 0 0, .slice none 0 0⟩ : PgV).p := ⟨_, rfl⟩
        rw [← hPLC] at HPL
        have HPC := hide hPLC
        obtain ⟨-, c1, -⟩ := HWM.out.cells
        have HC1 := hide c1
        have c1d : v4.drew.cell? ⟨b, 1, none⟩ = some (.slice Ab (a :: bs).length cb) := c1
        have HWD : Hid (Below v4.heap.size v4 v4.drew) := hide (Below.refl _ _).drew
        clear hPLC c1
        go_wp2_with fail
        go_region_law (first
          | (refine step_pls rfl _ _ rfl B (.slice Ab (a :: bs).length cb) (a :: bs).reverse (a :: bs).length List.length_reverse rfl PLC ((HWM.out.kept (HB5.out.trans ((below_one w5 _).mono HB5.out.size))).pls) (Nat.le_trans (Nat.le_trans HWM.out.Bb (Nat.le_of_lt HWM.out.lt)) (Nat.le_trans HB5.out.size (below_one w5 _).size)) _ rfl (two_ln _ _ _ _).1 (two_ln _ _ _ _).2 HBL.out ?_
             intro g6 c6 w6 ho6 hg6
             have hW : Below v4.heap.size v4 (w5.alloc (.cells #[.int .i64 (PLC.1 : Int), .int .i64 (PLC.2 : Int)] 126)) := HB5.out.trans ((below_one w5 _).mono HB5.out.size)
             obtain ⟨x6, y6⟩ : w6.cell? ⟨b, 1, none⟩ = some (.slice Ab (a :: bs).length cb) ∧ w6.frozen? ⟨b, 1, none⟩ = false := by
               have hk := HWM.out.kept hW
               have hb := (hg6.block b hk.lt (fun e => row_ne_page hk.pls hk.blk (by decide) e.symm)).trans hk.blk
               exact ⟨(Lib.cell_of_heap hb 1).trans rfl, Lib.frozen_of_heap hb 1⟩
             have HO6 := hide (HWM.out.setBv ho6 (grown_after hW hg6))
             clear ho6 hg6 hW)
          | (go_simp; (with_reducible refine (HIN.out _ HWD.out).mono ?_); rintro e w4 ⟨rfl, hb4⟩; have HB4 := hide (HWD.out.trans (hb4.mono HWD.out.size)); have z4 : w4.cell? ⟨b, 1, none⟩ = some (.slice Ab (a :: bs).length cb) := (HB4.out.cell (World.block_lt_of_cell? _ _ HC1.out)).trans HC1.out; clear hb4)
          | (go_simp; (with_reducible refine (HPL.out _ HB4.out).mono ?_); rintro e w5 ⟨rfl, hb5⟩; have HB5 := hide (HB4.out.trans (hb5.mono HB4.out.size)); have z5 : w5.cell? ⟨b, 1, none⟩ = some (.slice Ab (a :: bs).length cb) := (HB5.out.cell (World.block_lt_of_cell? _ _ HC1.out)).trans HC1.out; have z5a : ∀ ob, (w5.alloc ob).cell? ⟨b, 1, none⟩ = some (.slice Ab (a :: bs).length cb) := fun ob => ((below_one w5 ob).cell (World.block_lt_of_cell? _ _ z5)).trans z5; clear hb5))
        all_goals
          go_wp2_with fail
          go_ret
          exact ⟨rfl, ⟨_, _, _, by have hh := HO6.out.1; rw [HPC.out] at hh; exact hh, by rw [List.map_cons, HRM.out], HOK2.out⟩, HFR.out.trans HO6.out.2⟩
      · rw [decide_eq_false hq] at n2
        have hbg : bgW (q.p :: rest.map PgV.p, a :: bs, gh) nd K = (q.p :: rest.map PgV.p, place q.p :: a :: bs, gh + 2) := by simp only [bgW, if_neg hn, if_neg hbr, if_neg hq]
        rw [hbg] at HOK2 hm ⊢
        have HWM := HW1
        have HFR := HF1
        clear hn hbr hq hbg b2
        go_enter Tryz.func67, Tryz.ntmps67
        obtain ⟨Ab, cb, hbv⟩ := HWM.out.bform
        subst hbv
        have HIN : Hid (∀ wz, Below w1.heap.size w1 wz → Calls Tryz.prog 69 #[.pointer (some ⟨b, 0, none⟩)] wz fun e w' => e = .returned (.pointer (some ⟨g, rest.length * 2, none⟩)) ∧ Below wz.heap.size wz w') := hide (fun wz hb => innerB_any HWM.out HRL.out hb)
        have HPL : Hid (∀ wz, Below w1.heap.size w1 wz → Calls Tryz.prog 108 #[.pointer (some ⟨g, rest.length * 2, none⟩)] wz fun e w' => e = .returned (.agg #[.int .i64 ((place q.p).1 : Int), .int .i64 ((place q.p).2 : Int)]) ∧ Below wz.heap.size wz w') := hide (fun wz hb => place_any B g _ q.p q.ev q.lv _ (HWM.out.pg.kept hb))
        obtain ⟨PLC, hPLC⟩ : ∃ P, P = place q.p := ⟨_, rfl⟩
        rw [← hPLC] at HPL
        have HPC := hide hPLC
        obtain ⟨-, c1, -⟩ := HWM.out.cells
        have HC1 := hide c1
        have c1d : w1.drew.cell? ⟨b, 1, none⟩ = some (.slice Ab (a :: bs).length cb) := c1
        have HWD : Hid (Below w1.heap.size w1 w1.drew) := hide (Below.refl _ _).drew
        clear hPLC c1
        go_wp2_with fail
        go_region_law (first
          | (refine step_pls rfl _ _ rfl B (.slice Ab (a :: bs).length cb) (a :: bs).reverse (a :: bs).length List.length_reverse rfl PLC ((HWM.out.kept (HB5.out.trans ((below_one w5 _).mono HB5.out.size))).pls) (Nat.le_trans (Nat.le_trans HWM.out.Bb (Nat.le_of_lt HWM.out.lt)) (Nat.le_trans HB5.out.size (below_one w5 _).size)) _ rfl (two_ln _ _ _ _).1 (two_ln _ _ _ _).2 HBL.out ?_
             intro g6 c6 w6 ho6 hg6
             have hW : Below w1.heap.size w1 (w5.alloc (.cells #[.int .i64 (PLC.1 : Int), .int .i64 (PLC.2 : Int)] 126)) := HB5.out.trans ((below_one w5 _).mono HB5.out.size)
             obtain ⟨x6, y6⟩ : w6.cell? ⟨b, 1, none⟩ = some (.slice Ab (a :: bs).length cb) ∧ w6.frozen? ⟨b, 1, none⟩ = false := by
               have hk := HWM.out.kept hW
               have hb := (hg6.block b hk.lt (fun e => row_ne_page hk.pls hk.blk (by decide) e.symm)).trans hk.blk
               exact ⟨(Lib.cell_of_heap hb 1).trans rfl, Lib.frozen_of_heap hb 1⟩
             have HO6 := hide (HWM.out.setBv ho6 (grown_after hW hg6))
             clear ho6 hg6 hW)
          | (go_simp; (with_reducible refine (HIN.out _ HWD.out).mono ?_); rintro e w4 ⟨rfl, hb4⟩; have HB4 := hide (HWD.out.trans (hb4.mono HWD.out.size)); have z4 : w4.cell? ⟨b, 1, none⟩ = some (.slice Ab (a :: bs).length cb) := (HB4.out.cell (World.block_lt_of_cell? _ _ HC1.out)).trans HC1.out; clear hb4)
          | (go_simp; (with_reducible refine (HPL.out _ HB4.out).mono ?_); rintro e w5 ⟨rfl, hb5⟩; have HB5 := hide (HB4.out.trans (hb5.mono HB4.out.size)); have z5 : w5.cell? ⟨b, 1, none⟩ = some (.slice Ab (a :: bs).length cb) := (HB5.out.cell (World.block_lt_of_cell? _ _ HC1.out)).trans HC1.out; have z5a : ∀ ob, (w5.alloc ob).cell? ⟨b, 1, none⟩ = some (.slice Ab (a :: bs).length cb) := fun ob => ((below_one w5 ob).cell (World.block_lt_of_cell? _ _ z5)).trans z5; clear hb5))
        all_goals
          go_wp2_with fail
          go_ret
          exact ⟨rfl, ⟨_, _, _, by have hh := HO6.out.1; rw [HPC.out] at hh; exact hh, rfl, HOK2.out⟩, HFR.out.trans HO6.out.2⟩
end Go.Proofs.YtiejmkjpgjbodaaGreatDoor

namespace Go.Proofs.YtiejmkjpgjbodaaGreatDoor
open Go.RowKit
set_option linter.unusedVariables false
set_option linter.unusedSimpArgs false
set_option maxRecDepth 100000
theorem Apart.symm {a b c d : Value} (h : Apart a b c d) : Apart c d a b := fun k hk => ⟨fun e => by
    obtain ⟨h1, h2⟩ := h k (.inl e)
    rcases hk with hk | hk
    · exact h1 hk
    · exact h2 hk, fun e => by
    obtain ⟨h1, h2⟩ := h k (.inr e)
    rcases hk with hk | hk
    · exact h1 hk
    · exact h2 hk⟩
theorem PgW.setWr {B b g j i : Nat} {p : PgL} {ev lv pv bv u : Value} {w : World} (h : PgW B g j p ev lv w) (hb : w.heap[b]? = some (.cells #[pv, bv] 93 (0, 0))) : PgW B g j p ev lv (w.setCell ⟨b, i, none⟩ u) := by
  obtain ⟨cur, hc, c0, c1⟩ := h.blk
  have hgb : g ≠ b := by
    rintro rfl
    exact block_ne hc hb (by decide)
  exact ⟨⟨cur, (Below.heap_setCell w ⟨b, i, none⟩ u g hgb).trans hc, c0, c1⟩, ownsRow_setCell_other h.ln (row_ne_page h.ln hb (by decide)) _, ownsRow_setCell_other h.bt (row_ne_page h.bt hb (by decide)) _, h.Bg⟩
theorem qlen_le (l : List LnL) : qlen l ≤ (l.flatMap fun x => lineS x ++ [10]).length + 2 * l.length := by
  induction l with
  | nil => exact Nat.le_refl _
  | cons x r ih =>
    have ht := trimCR_length x.2
    unfold qlen at *
    simp only [List.map_cons, List.sum_cons, List.flatMap_cons, List.length_append, List.length_cons, List.length_nil]
    have e1 : (lineS (x.1 + 1, trimCR x.2)).length = 2 * (x.1 + 1) + (trimCR x.2).length := by unfold lineS; rw [List.length_append, signs_len]
    have e2 : (lineS x).length = 2 * x.1 + x.2.length := by unfold lineS; rw [List.length_append, signs_len]
    rw [e1, e2]
    omega
theorem ok_two {q p : PgL} {ps : List PgL} {bs : List PlL} {g : Nat} (h : OKW (q :: p :: ps, bs, g)) (hg : g ≤ 1000000) : roomP p (qlen q.1 + q.2.length + 3) ∧ PgOK q ∧ bytW [q] ≤ 4000000000000 := by
  obtain ⟨h1, h2, h3, h4, h5⟩ := h
  have hq := qlen_le q.1
  simp only [lnsW, bytW, List.map_cons, List.sum_cons, List.length_cons, List.map_nil, List.sum_nil] at h2 h3 h4 h5 ⊢
  have r1 : (render q).length = (q.1.flatMap fun x => lineS x ++ [10]).length + q.2.length := by unfold render; rw [List.length_append]
  have r2 : p.2.length ≤ (render p).length := by unfold render; rw [List.length_append]; omega
  exact ⟨⟨by omega, by omega⟩, h1 q (List.mem_cons_self ..), by omega⟩
theorem popB_drew {B b g c : Nat} {pv : Value} {qs : List PgV} {a : PlL} {bs : List PlL} {w : World} (h : WrM B b pv (.slice (some ⟨g, 0, none⟩) (bs.length + 1) c) qs (a :: bs) w) :
    WrM B b pv (.slice (some ⟨g, 0, none⟩) bs.length c) qs bs (w.setCell ⟨b, 1, none⟩ (.slice (some ⟨g, 0, none⟩) bs.length c)).drew ∧ FrL B w (w.setCell ⟨b, 1, none⟩ (.slice (some ⟨g, 0, none⟩) bs.length c)).drew := by
  obtain ⟨h1, h2⟩ := h.popB
  have hb := (Below.refl (w.setCell ⟨b, 1, none⟩ (.slice (some ⟨g, 0, none⟩) bs.length c)).heap.size (w.setCell ⟨b, 1, none⟩ (.slice (some ⟨g, 0, none⟩) bs.length c))).drew
  exact ⟨h1.kept hb, h2.trans (FrL.kept hb (Nat.le_trans h1.Bb (Nat.le_of_lt h1.lt)))⟩
theorem popP_drew {B b g c : Nat} {bv : Value} {q : PgV} {rest : List PgV} {bs : List PlL} {w : World} (h : WrM B b (.slice (some ⟨g, 0, none⟩) (rest.length + 1) c) bv (q :: rest) bs w) :
    WrM B b (.slice (some ⟨g, 0, none⟩) rest.length c) bv rest bs (w.setCell ⟨b, 0, none⟩ (.slice (some ⟨g, 0, none⟩) rest.length c)).drew ∧ FrL B w (w.setCell ⟨b, 0, none⟩ (.slice (some ⟨g, 0, none⟩) rest.length c)).drew ∧ PgW B g (rest.length * 2) q.p q.ev q.lv (w.setCell ⟨b, 0, none⟩ (.slice (some ⟨g, 0, none⟩) rest.length c)).drew := by
  obtain ⟨h1, h2⟩ := h.popP
  have hb := (Below.refl (w.setCell ⟨b, 0, none⟩ (.slice (some ⟨g, 0, none⟩) rest.length c)).heap.size (w.setCell ⟨b, 0, none⟩ (.slice (some ⟨g, 0, none⟩) rest.length c))).drew
  exact ⟨h1.kept hb, h2.trans (FrL.kept hb (Nat.le_trans h1.Bb (Nat.le_of_lt h1.lt))), (h.pg.setWr h.blk).kept hb⟩
theorem wraps (n : Nat) (h : n ≤ 1000001) : IntKind.i64.wrap (n : Int) = (n : Int) ∧ wrap64 (n : Int) = (n : Int) ∧ IntKind.i64.wrap ((n : Int) + 1 - 1) = (n : Int) ∧ IntKind.i64.wrap ((n : Int) + 1) = (n : Int) + 1 ∧ IntKind.i64.wrap ((n : Int) + 1 + 1 - 1) = (n : Int) + 1 := by
  have h1 : IntKind.i64.wrap (n : Int) = (n : Int) := IntWalk.i64_in _ (by omega)
  have h2 : IntKind.i64.wrap ((n : Int) + 1) = (n : Int) + 1 := IntWalk.i64_in _ (by clear h1; omega)
  have h3 : wrap64 (n : Int) = (n : Int) := by clear h1 h2; unfold wrap64; omega
  exact ⟨h1, h3, by rw [Int.add_sub_cancel]; exact h1, h2, by rw [Int.add_sub_cancel]; exact h2⟩
set_option maxHeartbeats 4000000 in
theorem end_anyPn (B b : Nat) : EndOKb B 68 (.pointer (some ⟨b, 0, none⟩)) (WrInv B b) enW (fun s => s.2.2) 1000000 := by
  intro s w nd K av kv hI hB hA hK hm
  obtain ⟨pv, bv, qs, hw, hmap, hok⟩ := hI
  obtain ⟨ps, bs, gh⟩ := s
  simp only at hmap hw
  cases qs with
  | nil =>
    simp only [List.map_nil] at hmap
    subst hmap
    exact absurd hm (by show ¬ gh + 2000000 ≤ 1000000; omega)
  | cons q rest =>
  cases bs with
  | nil =>
    subst hmap
    exact absurd hm (by show ¬ gh + 2000000 ≤ 1000000; omega)
  | cons a bs =>
  simp only [List.map_cons] at hmap
  subst hmap
  have hgb := enW_le (q.p :: rest.map PgV.p, a :: bs, gh) nd
  have hok2 := OKW.en hok nd hm
  obtain ⟨k1, k2, k3, k4, k5⟩ := ok_page hok
  rw [List.length_map] at k3
  simp only [List.length_cons] at k4
  have hgm : gh ≤ 1000000 := Nat.le_trans hgb hm
  have HBL : Hid (bs.length ≤ 1000000) := hide (by omega)
  obtain ⟨g, cp, rfl, hc1, hc2, hp⟩ := hw.page
  obtain ⟨gb, cb, rfl, hd1, hd2, d0, d1⟩ := hw.plc
  obtain ⟨KA, KC, rfl⟩ := hK.form
  clear hc2 hd2
  obtain ⟨w1, hw1⟩ : ∃ w1, w.alloc (Obj.cells #[.string (str nd.name), av, .string (str nd.text), .slice KA K.len KC] 33) = w1 := ⟨_, rfl⟩
  have hb1 : Below w.heap.size w w1 := by rw [← hw1]; exact below_one w _
  have hx1 : w1.heap[w.heap.size]? = some (Obj.cells #[.string (str nd.name), av, .string (str nd.text), .slice KA K.len KC] 33 (0, 0)) := by rw [← hw1]; exact heap_alloc_new w _
  have hk1 := hw.kept hb1
  obtain ⟨c0, c1, cf⟩ := hk1.cells
  have f1 := cf 1
  have HP2 := hide (popB_drew hk1)
  have HF1 : Hid (FrL B w w1) := hide (FrL.kept hb1 hB)
  have z0 : (w1.setCell ⟨b, 1, none⟩ (.slice (some ⟨gb, 0, none⟩) bs.length cb)).drew.cell? ⟨w.heap.size, 0, none⟩ = some (.string (str nd.name)) := (Lib.cell_of_heap ((HP2.out.2.2 _ _ _ _ hx1 (.inr rfl)).trans hx1) 0).trans rfl
  have hs1 : (bs.length : Int) ≤ (cb : Int) := by omega
  have hs2 : bs.length ≤ cb := by omega
  have hs3 : (0 : Int) ≤ (bs.length : Int) := by omega
  have n2 : ((str nd.name).toList == [98, 108, 111, 99, 107, 113, 117, 111, 116, 101]) = decide (nd.name = quoN) := by rw [str_list]; exact beq_dec _ _
  have HOK2 := hide hok2
  have HOK := hide hok
  have HGM := hide hgm
  have HRS : Hid (rest.length ≤ 1000000) := hide (by omega)
  unfold ndV
  clear hA hK hok hok2 hp hx1 hb1 k1 k2 k3 k4 k5 hgb hc1 hd1 d0 d1 hw hk1 c0 cf
  by_cases hq : nd.name = quoN
  · rw [decide_eq_true hq] at n2
    cases rest with
    | nil =>
      have e : enW ([q.p], a :: bs, gh) nd = badW ([q.p], a :: bs, gh) := by simp only [enW, if_pos hq]
      rw [show ((q.p :: List.map PgV.p [], a :: bs, gh) : WS) = ([q.p], a :: bs, gh) from rfl, e] at hm
      exact absurd hm (by show ¬ gh + 2000000 ≤ 1000000; omega)
    | cons p rest =>
    have hen : enW (q.p :: List.map PgV.p (p :: rest), a :: bs, gh) nd = (quoteP p.p q.p :: rest.map PgV.p, bs, gh + 1) := by simp only [enW, if_pos hq, List.map_cons]
    rw [hen] at HOK2 ⊢
    obtain ⟨r1, r2, r3⟩ := ok_two HOK.out HGM.out
    have HR := hide (And.intro r1 (And.intro r2 r3))
    have HPL : Hid (rest.length ≤ 1000000) := hide (by have := HRS.out; simp only [List.length_cons] at this; omega)
    obtain ⟨gc, cc, ee, hcc, hcm, -⟩ := HP2.out.1.page
    injection ee with e1 e2 e3
    subst e3
    clear hcm
    have hs4 : (rest.length : Int) + 1 ≤ (cp : Int) := by simp only [List.length_cons] at hcc; omega
    have hs5 : rest.length + 1 ≤ cp := by simp only [List.length_cons] at hcc; omega
    have hs6 : (0 : Int) ≤ (rest.length : Int) + 1 := by omega
    clear r1 r2 r3 hq hen hcc e1 e2
    obtain ⟨hw3, hw4, hw5, -, -⟩ := wraps bs.length (by have := HBL.out; omega)
    obtain ⟨-, -, -, hv3, hv4⟩ := wraps rest.length (by have := HPL.out; omega)
    go_enter Tryz.func68, Tryz.ntmps68
    go_wp2_with fail
    go_still_tail 14, (by kernel_rfl)
    change wpList _ _ _ _ _ w1.drew
    go_wp2_with fail
    generalize (w1.setCell ⟨b, 1, none⟩ (.slice (some ⟨gb, 0, none⟩) bs.length cb)).drew = v2 at HP2 z0 ⊢
    have HIN := hide (innerB_any HP2.out.1 (by have := HRS.out; omega) (Below.refl v2.heap.size v2))
    go_wp2_with fail
    refine HIN.out.mono ?_
    rintro e v3 ⟨rfl, hb3⟩
    have hw3' := HP2.out.1.kept hb3
    have HF3 : Hid (FrL B w v3) := hide (HF1.out.trans (HP2.out.2.trans (FrL.kept hb3 (Nat.le_trans HP2.out.1.Bb (Nat.le_of_lt HP2.out.1.lt)))))
    obtain ⟨y0, -, yf⟩ := hw3'.cells
    have y1 := yf 0
    have HP4 := hide (popP_drew hw3')
    have HAP := hide (List.pairwise_cons.1 hw3'.apart)
    simp only [List.length_cons] at y0 HP4
    clear hb3 yf hw3' HIN
    go_wp2_with fail
    go_still_tail 14, (by kernel_rfl)
    change wpList _ _ _ _ _ v3.drew
    go_wp2_with fail
    generalize (v3.setCell ⟨b, 0, none⟩ (.slice (some ⟨g, 0, none⟩) (rest.length + 1) cp)).drew = v4 at HP4 ⊢
    have HIN2 := hide (innerB_any HP4.out.1 (by have := HPL.out; clear hw3 hw4 hw5 hv3 hv4; omega) (Below.refl v4.heap.size v4))
    clear y0 y1 z0 hw3 hw4 hw5 hv3 hv4
    refine HIN2.out.mono ?_
    rintro e v5 ⟨rfl, hb5⟩
    have HW5 := hide (HP4.out.1.kept hb5)
    have HQ5 := hide (HP4.out.2.2.kept hb5)
    have HF5 : Hid (FrL B w v5) := hide (HF3.out.trans (HP4.out.2.1.trans (FrL.kept hb5 (Nat.le_trans HP4.out.1.Bb (Nat.le_of_lt HP4.out.1.lt)))))
    have HQT := hide (quote_any B g (rest.length * 2) ((rest.length + 1) * 2) p.p q.p p.ev p.lv q.ev q.lv v5 HW5.out.pg HQ5.out (Apart.symm (HAP.out.1 p (List.mem_cons_self ..))) (by omega) (by omega) (by omega) HR.out.2.1 HR.out.1 HR.out.2.2)
    clear hb5
    go_wp2_with fail
    refine HQT.out.mono ?_
    rintro e v6 ⟨rfl, e6, l6, hp6, hf6⟩
    have HT6 := hide (HW5.out.turned HW5.out.pg hp6 hf6)
    have HF6 := hide (HF5.out.trans (hf6.frl HW5.out.pg))
    clear hp6 hf6
    go_wp2_with fail
    go_end0
    exact ⟨rfl, ⟨_, _, _, HT6.out, rfl, HOK2.out⟩, HF6.out⟩
  · rw [decide_eq_false hq] at n2
    have hen : enW (q.p :: List.map PgV.p rest, a :: bs, gh) nd = (q.p :: rest.map PgV.p, bs, gh + 1) := by simp only [enW, if_neg hq]
    rw [hen] at HOK2 ⊢
    clear hq hen
    obtain ⟨hw3, hw4, hw5, -, -⟩ := wraps bs.length (by have := HBL.out; omega)
    go_enter Tryz.func68, Tryz.ntmps68
    go_wp2_with fail
    go_still_tail 14, (by kernel_rfl)
    change wpList _ _ _ _ _ w1.drew
    go_wp2_with fail
    go_end0
    exact ⟨rfl, ⟨_, _, _, HP2.out.1, rfl, HOK2.out⟩, HF1.out.trans HP2.out.2⟩
end Go.Proofs.YtiejmkjpgjbodaaGreatDoor

namespace Go.Proofs.YtiejmkjpgjbodaaGreatDoor
open Go.RowKit
set_option linter.unusedVariables false
set_option linter.unusedSimpArgs false
set_option maxRecDepth 100000
def rdr (l : List LnL) : List UInt8 := l.flatMap fun x => lineS x ++ [10]
theorem rdr_snoc (l : List LnL) (x : LnL) : rdr (l ++ [x]) = rdr l ++ lineS x ++ [10] := by unfold rdr; rw [List.flatMap_append, List.flatMap_singleton, List.append_assoc]
theorem rdr_take_le (l : List LnL) (k : Nat) : (rdr (l.take k)).length ≤ (rdr l).length := by
  have : rdr l = rdr (l.take k) ++ rdr (l.drop k) := by
    conv => lhs; rw [← List.take_append_drop k l]
    unfold rdr; rw [List.flatMap_append]
  rw [this, List.length_append]; omega
set_option maxHeartbeats 4000000 in
theorem pageStr_any (B g j : Nat) (p : PgL) (ev lv : Value) (w : World) (h : PgW B g j p ev lv w) (hlen : (render p).length ≤ 4000000000000) :
    Calls Tryz.prog 70 #[.pointer (some ⟨g, j, none⟩)] w fun e w' => e = .returned (.string (str (render p))) ∧ Below w.heap.size w w' := by
  obtain ⟨Ae, ce, rfl⟩ := h.ln.form
  obtain ⟨Al, cl, rfl⟩ := h.bt.form
  have hr : (rdr p.1).length + p.2.length ≤ 4000000000000 := by unfold render at hlen; rw [List.length_append] at hlen; exact hlen
  have hnl : p.1.length ≤ (rdr p.1).length := by
    have h0 : ∀ l : List LnL, l.length ≤ (rdr l).length := fun l => by
      induction l with
      | nil => exact Nat.le_refl _
      | cons x r ih =>
        have e : rdr (x :: r) = lineS x ++ [10] ++ rdr r := by unfold rdr; rw [List.flatMap_cons]
        rw [e]; simp only [List.length_append, List.length_cons, List.length_nil]; omega
    exact h0 _
  have hb0 := below_one w (.cells #[.pointer none, .slice none 0 0] 78)
  have HBD : Hid (Bld w.heap.size w.heap.size [] w (w.alloc (.cells #[.pointer none, .slice none 0 0] 78))) := hide (Bld.new (Below.refl _ _) (Nat.le_refl _))
  obtain ⟨c0, -, -, -⟩ := (h.kept hb0).cells
  have H := hide h
  have HR := hide hr
  have HNL := hide hnl
  have HE : Hid (rdr p.1 ++ p.2 = render p) := hide rfl
  have hpl : p.1.length ≤ 4000000000000 := by omega
  clear h hr hnl hlen hb0
  go_enter Tryz.func70, Tryz.ntmps70
  go_wp2_with fail
  go_loopw [11] (fun i wr => ∃ (k : Nat), k ≤ p.1.length ∧ i = .int .i64 k ∧ Hid (Bld w.heap.size w.heap.size (rdr (p.1.take k)) w wr)) (fun i _ => p.1.length - (intOf i).toNat)
  case atStart => exact ⟨0, Nat.zero_le _, rfl, HBD⟩
  case round =>
    obtain ⟨k, hk, rfl, HB⟩ := hrel
    have hp1 := H.out.kept HB.out.2.1
    by_cases hlt : k < p.1.length
    · obtain ⟨x, hx⟩ : ∃ x, p.1[k]? = some x := ⟨_, List.getElem?_eq_getElem hlt⟩
      obtain ⟨a, rfl, -, hcap, hmax, hat⟩ := (LnRow.in hp1.ln).some (fun e => by rw [e] at hlt; simp at hlt)
      obtain ⟨d0, d1⟩ := hat.at hx
      have htk : rdr (p.1.take (k + 1)) = rdr (p.1.take k) ++ lineS x ++ [10] := by rw [List.take_add_one, hx]; exact rdr_snoc _ _
      have hle := rdr_take_le p.1 (k + 1)
      rw [htk, List.length_append, List.length_append] at hle
      have hsz : 2 * x.1 + x.2.length = (lineS x).length := by unfold lineS; rw [List.length_append, signs_len]
      obtain ⟨w1, hw1⟩ : ∃ w1, wr.alloc (Obj.cells #[.int .i64 (x.1 : Int), .string (str x.2)] 40) = w1 := ⟨_, rfl⟩
      have hb1 : Below wr.heap.size wr w1 := by rw [← hw1]; exact below_one wr _
      have hx1 : w1.heap[wr.heap.size]? = some (Obj.cells #[.int .i64 (x.1 : Int), .string (str x.2)] 40 (0, 0)) := by rw [← hw1]; exact heap_alloc_new wr _
      have b0 : w1.cell? ⟨wr.heap.size, 0, none⟩ = some (.int .i64 (x.1 : Int)) := (Lib.cell_of_heap hx1 0).trans rfl
      have b1 : w1.cell? ⟨wr.heap.size, 1, none⟩ = some (.string (str x.2)) := (Lib.cell_of_heap hx1 1).trans rfl
      have HB1 := hide (HB.out.kept hb1)
      have HLS := hide (lineStr_any x w1 (by have := HR.out; omega) (by have := HR.out; omega))
      unfold lnV at HLS
      obtain ⟨X, hX⟩ : ∃ X, X = str (lineS x) := ⟨_, rfl⟩
      have HX : Hid (X.data.toList = lineS x ∧ X.size = (lineS x).length) := hide (by rw [hX]; exact ⟨str_toList _, str_size _⟩)
      rw [← hX] at HLS
      have HTK := hide htk
      have HLE : Hid ((rdr (p.1.take k)).length + (lineS x).length + 1 ≤ 4000000000000) := hide (by have := HR.out; simp only [List.length_cons, List.length_nil] at hle; omega)
      clear hx hp1 hcap hmax hat htk hle hsz hb1 hx1 hX
      go_wp2_with fail
      refine HLS.out.mono ?_
      rintro e w2 ⟨rfl, hb2⟩
      have HB2 := hide (HB1.out.kept hb2)
      clear hb2
      go_wp2_with fail
      refine (writeString_any w.heap.size w.heap.size (rdr (p.1.take k)) X w w2 HB2.out (by rw [HX.out.2]; have := HLE.out; omega)).mono ?_
      rintro e w3 ⟨rfl, hb3⟩
      rw [HX.out.1] at hb3
      have HB3 := hide hb3
      clear hb3
      go_wp2_with fail
      refine (writeString_any w.heap.size w.heap.size (rdr (p.1.take k) ++ lineS x) ⟨#[10]⟩ w w3 HB3.out (by rw [List.length_append]; have := HLE.out; show _ + 1 ≤ _; omega)).mono ?_
      rintro e w4 ⟨rfl, hb4⟩
      rw [show (⟨#[10]⟩ : ByteArray).data.toList = [10] from rfl, ← HTK.out] at hb4
      have HB4 := hide hb4
      clear hb4
      go_wp2_with fail
      go_roundw
      case rel => exact ⟨k + 1, by omega, by go_num, HB4⟩
      case measure => have h1 := HNL.out; have h2 := HR.out; simp [intOf]; omega
    · obtain rfl : k = p.1.length := by omega
      have HB2 := HB.out
      rw [List.take_length] at HB2
      replace HB2 := hide HB2
      obtain ⟨y0, y1, -, -⟩ := hp1.cells
      have HWB := hide (writeBytes_any w.heap.size w.heap.size (rdr p.1) B (.slice Al p.2.length cl) p.2 w wr HB2.out hp1.bt (fun k e => (H.out.low.2 k e).2) (by have := HR.out; omega))
      rw [HE.out] at HWB
      clear hp1
      go_wp2_with fail
      refine HWB.out.mono ?_
      rintro e w3 ⟨rfl, hb3⟩
      have HB3 := hide hb3
      clear hb3
      go_wp2_with fail
      refine (HB3.out.string).mono ?_
      rintro e w4 ⟨rfl, hb4⟩
      have HB4 := hide hb4
      clear hb4
      go_wp2_with fail
      go_ret
      exact ⟨rfl, HB4.out⟩
theorem wr_start {B b g gb : Nat} {w : World} (hb : w.heap[b]? = some (.cells #[.slice (some ⟨g, 0, none⟩) 1 1, .slice (some ⟨gb, 0, none⟩) 1 1] 93 (0, 0))) (hg : w.heap[g]? = some (.cells #[.slice none 0 0, .slice none 0 0] 124 (0, 0))) (hgb : w.heap[gb]? = some (.cells #[.int .i64 0, .int .i64 0] 126 (0, 0))) (h1 : B ≤ b) (h2 : B ≤ g) (h3 : B ≤ gb) :
    WrInv B b ([([], [])], [(0, 0)], 0) w :=
  ⟨_, _, [⟨([], []), .slice none 0 0, .slice none 0 0⟩], ⟨hb, ⟨rfl, .inr ⟨g, 1, _, rfl, h2, hg, Nat.le_refl _, by decide, rfl, rfl⟩⟩, ⟨rfl, .inr ⟨gb, 1, _, rfl, h3, hgb, Nat.le_refl _, by decide, rfl, rfl⟩⟩, fun q hq => by
    obtain rfl := List.mem_singleton.1 hq
    exact ⟨World.ownsRow_nil _ _ _ 2, World.ownsRow_nil _ _ _ 1⟩, List.pairwise_singleton _ _, h1⟩, rfl, OKW.start⟩
theorem make_pages (W : World) : (Instr.makeSlice 90 (.int .i64 1) (.int .i64 1)).run Tryz.prog W = .ok (.slice (some ⟨W.heap.size, 0, none⟩) 1 1) (W.alloc (.cells #[.slice none 0 0, .slice none 0 0] 124)) := by
  obtain ⟨i0, hi, hz0, hz1, hz2⟩ := info_parts info_pg
  have h := run_makeSlice (P := Tryz.prog) W 90 124 i0 (.agg #[.slice none 0 0, .slice none 0 0]) Tryz.underlying90 hi hz0 .i64 .i64 1 1 (by decide) (by decide) (by rw [hz1]; decide) (by rw [hz2]; decide) (by decide)
  have e : madeCells (Value.agg #[.slice none 0 0, .slice none 0 0]).cells (Int.toNat 1 * 2) = #[.slice none 0 0, .slice none 0 0] := by kernel_rfl
  rw [h, hz1, e]; rfl
theorem make_places (W : World) : (Instr.makeSlice 91 (.int .i64 1) (.int .i64 1)).run Tryz.prog W = .ok (.slice (some ⟨W.heap.size, 0, none⟩) 1 1) (W.alloc (.cells #[.int .i64 0, .int .i64 0] 126)) := by
  obtain ⟨i0, hi, hz0, hz1, hz2⟩ := info_parts info_pl
  have h := run_makeSlice (P := Tryz.prog) W 91 126 i0 (.agg #[.int .i64 0, .int .i64 0]) Tryz.underlying91 hi hz0 .i64 .i64 1 1 (by decide) (by decide) (by rw [hz1]; decide) (by rw [hz2]; decide) (by decide)
  have e : madeCells (Value.agg #[.int .i64 0, .int .i64 0]).cells (Int.toNat 1 * 2) = #[.int .i64 0, .int .i64 0] := by kernel_rfl
  rw [h, hz1, e]; rfl
theorem three_below (w : World) (o1 o2 o3 : Obj) : Below w.heap.size w (((w.alloc o1).alloc o2).alloc o3).drew :=
  ((below_one w o1).trans (((below_one _ o2).trans ((below_one _ o3).mono (below_one _ o2).size)).mono (below_one w o1).size)).drew
theorem three1 (w : World) (o1 o2 o3 : Obj) : (((w.alloc o1).alloc o2).alloc o3).drew.heap[w.heap.size]? = some o1 :=
  (((below_one _ o3).block _ (by rw [World.size_alloc, World.size_alloc]; omega)).trans ((below_one _ o2).block _ (by rw [World.size_alloc]; omega))).trans (heap_alloc_new w o1)
theorem three2 (w : World) (o1 o2 o3 : Obj) : (((w.alloc o1).alloc o2).alloc o3).drew.heap[w.heap.size + 1]? = some o2 :=
  ((below_one _ o3).block _ (by rw [World.size_alloc, World.size_alloc]; omega)).trans (by have := heap_alloc_new (w.alloc o1) o2; rw [World.size_alloc] at this; exact this)
theorem three3 (w : World) (o1 o2 o3 : Obj) : (((w.alloc o1).alloc o2).alloc o3).drew.heap[w.heap.size + 1 + 1]? = some o3 := by
  have := heap_alloc_new ((w.alloc o1).alloc o2) o3
  rw [World.size_alloc, World.size_alloc] at this; exact this
def TxtSt (w : World) (s3 : Value) (wx : World) : Prop := ∃ b, s3 = .pointer (some ⟨b, 0, none⟩) ∧ WrInv w.heap.size b ([([], [])], [(0, 0)], 0) wx ∧ Below w.heap.size w wx
theorem txt_st0 (w : World) : TxtSt w (.pointer (some ⟨w.heap.size, 0, none⟩)) (((w.alloc (.cells #[.slice (some ⟨(w.heap.size + 1), 0, none⟩) 1 1, .slice (some ⟨(w.heap.size + 1 + 1), 0, none⟩) 1 1] 93)).alloc (.cells #[.slice none 0 0, .slice none 0 0] 124)).alloc (.cells #[.int .i64 0, .int .i64 0] 126)).drew :=
  ⟨_, rfl, wr_start (B := w.heap.size) (three1 w _ _ _) (three2 w _ _ _) (three3 w _ _ _) (Nat.le_refl _) (Nat.le_succ _) (Nat.le_add_right _ 2), three_below w _ _ _⟩
theorem txt_st1 (w : World) : TxtSt w (.pointer (some ⟨w.heap.size, 0, none⟩)) (((w.alloc (.cells #[.slice (some ⟨(w.heap.size + 1 + 1), 0, none⟩) 1 1, .slice (some ⟨(w.heap.size + 1), 0, none⟩) 1 1] 93)).alloc (.cells #[.int .i64 0, .int .i64 0] 126)).alloc (.cells #[.slice none 0 0, .slice none 0 0] 124)).drew :=
  ⟨_, rfl, wr_start (B := w.heap.size) (three1 w _ _ _) (three3 w _ _ _) (three2 w _ _ _) (Nat.le_refl _) (Nat.le_add_right _ 2) (Nat.le_succ _), three_below w _ _ _⟩
theorem txt_st2 (w : World) : TxtSt w (.pointer (some ⟨(w.heap.size + 1), 0, none⟩)) (((w.alloc (.cells #[.slice none 0 0, .slice none 0 0] 124)).alloc (.cells #[.slice (some ⟨w.heap.size, 0, none⟩) 1 1, .slice (some ⟨(w.heap.size + 1 + 1), 0, none⟩) 1 1] 93)).alloc (.cells #[.int .i64 0, .int .i64 0] 126)).drew :=
  ⟨_, rfl, wr_start (B := w.heap.size) (three2 w _ _ _) (three1 w _ _ _) (three3 w _ _ _) (Nat.le_succ _) (Nat.le_refl _) (Nat.le_add_right _ 2), three_below w _ _ _⟩
theorem txt_st3 (w : World) : TxtSt w (.pointer (some ⟨(w.heap.size + 1), 0, none⟩)) (((w.alloc (.cells #[.int .i64 0, .int .i64 0] 126)).alloc (.cells #[.slice (some ⟨(w.heap.size + 1 + 1), 0, none⟩) 1 1, .slice (some ⟨w.heap.size, 0, none⟩) 1 1] 93)).alloc (.cells #[.slice none 0 0, .slice none 0 0] 124)).drew :=
  ⟨_, rfl, wr_start (B := w.heap.size) (three2 w _ _ _) (three3 w _ _ _) (three1 w _ _ _) (Nat.le_succ _) (Nat.le_add_right _ 2) (Nat.le_refl _), three_below w _ _ _⟩
theorem txt_st4 (w : World) : TxtSt w (.pointer (some ⟨(w.heap.size + 1 + 1), 0, none⟩)) (((w.alloc (.cells #[.slice none 0 0, .slice none 0 0] 124)).alloc (.cells #[.int .i64 0, .int .i64 0] 126)).alloc (.cells #[.slice (some ⟨w.heap.size, 0, none⟩) 1 1, .slice (some ⟨(w.heap.size + 1), 0, none⟩) 1 1] 93)).drew :=
  ⟨_, rfl, wr_start (B := w.heap.size) (three3 w _ _ _) (three1 w _ _ _) (three2 w _ _ _) (Nat.le_add_right _ 2) (Nat.le_refl _) (Nat.le_succ _), three_below w _ _ _⟩
theorem txt_st5 (w : World) : TxtSt w (.pointer (some ⟨(w.heap.size + 1 + 1), 0, none⟩)) (((w.alloc (.cells #[.int .i64 0, .int .i64 0] 126)).alloc (.cells #[.slice none 0 0, .slice none 0 0] 124)).alloc (.cells #[.slice (some ⟨(w.heap.size + 1), 0, none⟩) 1 1, .slice (some ⟨w.heap.size, 0, none⟩) 1 1] 93)).drew :=
  ⟨_, rfl, wr_start (B := w.heap.size) (three3 w _ _ _) (three2 w _ _ _) (three1 w _ _ _) (Nat.le_add_right _ 2) (Nat.le_succ _) (Nat.le_refl _), three_below w _ _ _⟩
set_option maxHeartbeats 4000000 in
theorem plainText_any (v : Value) (T : Tr) (w : World) (hT : NodesIn w v T) (hc : T.count ≤ 1000000) (hcost : costT T ≤ 1000000) :
    Calls Tryz.prog 27 #[v] w fun e w' => e = .returned (.string (str (plainT T))) ∧ Below w.heap.size w w' := by
  obtain ⟨pe, ge, hv, hge, hre⟩ := vis_plain T
  have HT := hide hT
  have HV := hide (And.intro hv (And.intro hge hre))
  have HCC := hide (And.intro hc hcost)
  clear hT hv hge hre hc hcost
  have hm1 := make_pages
  have hm2 := make_places
  have hmf : ∀ fn first cap w, (Instr.makeFunc fn first cap).run Tryz.prog w = .ok (.func fn first cap) w := fun _ _ _ _ => rfl
  go_enter Tryz.func27, Tryz.ntmps27
  go_upto_region 1 with (fail)
  go_cut [3, 4, 5, 6] (fun s3 _ _ _ wx => TxtSt w s3 wx)
  case first =>
    go_region
    all_goals
      go_wp2_with fail
      go_meet
      first | exact txt_st0 w | exact txt_st1 w | exact txt_st2 w | exact txt_st3 w | exact txt_st4 w | exact txt_st5 w
  obtain ⟨b, rfl, hinv, hb0⟩ := hcut
  have hKb : ∀ args w, (callFunc 67 args).run Tryz.prog w = .ok (.enter 67 args) w := enters_of Tryz.func67 (by kernel_rfl) rfl
  have hKe : ∀ args w, (callFunc 68 args).run Tryz.prog w = .ok (.enter 68 args) w := enters_of Tryz.func68 (by kernel_rfl) rfl
  have HW := hide (walk_genb w.heap.size 67 68 (.pointer (some ⟨b, 0, none⟩)) (.pointer (some ⟨b, 0, none⟩)) hKb hKe (WrInv w.heap.size b) bgW enW dvW (fun s => s.2.2) 1000000 (fun _ _ => True) bgW_le enW_le (wr_inv _ _) (beg_any _ _) (end_anyPn _ _) v T ([([], [])], [(0, 0)], 0) _
    (HT.out.mono (fun k hk => hb0.block k hk) (fun _ h => h)) (Tr.ev_true T) HCC.out.1 (by show (vis bgW enW dvW T ([([], [])], [(0, 0)], 0)).2.2 ≤ _; rw [HV.out.1]; exact Nat.le_trans HV.out.2.1 HCC.out.2) hinv hb0.size)
  have HB0 := hide hb0
  clear hinv hb0 hKb hKe
  go_wp2_with fail
  refine HW.out.mono ?_
  rintro e w2 ⟨rfl, hi2, hb2⟩
  rw [HV.out.1] at hi2
  obtain ⟨pv, bv, qs, hw2, hm, hok⟩ := hi2
  obtain ⟨q, rfl, hqp⟩ : ∃ q, qs = [q] ∧ q.p = pe := by
    match qs, hm with
    | [q], hm => exact ⟨q, rfl, by simpa using hm⟩
  obtain ⟨g, c, rfl, -, -, hp⟩ := hw2.page
  have HB2 := hide (HB0.out.trans hb2)
  have hbyt : (render q.p).length ≤ 4000000000000 := by
    have h1 := hok.byt
    have h2 : (render pe).length ≤ ge * 2000010 := by simpa [bytW] using h1
    have h3 := Nat.le_trans HV.out.2.1 HCC.out.2
    rw [hqp]; omega
  have HI := hide (innerB_any hw2 (by decide) (Below.refl w2.heap.size w2))
  have HP := hide hp
  have HBY := hide hbyt
  have HQ : Hid (render q.p = plainT T) := hide (by rw [hqp]; exact HV.out.2.2)
  clear hw2 hm hok hqp hp hb2 hbyt
  go_wp2_with fail
  refine HI.out.mono ?_
  rintro e w3 ⟨rfl, hb3⟩
  have HS := hide (pageStr_any w.heap.size g _ q.p q.ev q.lv w3 (HP.out.kept hb3) HBY.out)
  rw [HQ.out] at HS
  have HB3 := hide (bl_two HB2.out hb3)
  clear hb3
  go_wp2_with fail
  refine HS.out.mono ?_
  rintro e w4 ⟨rfl, hb4⟩
  have HB4 := hide (bl_two HB3.out hb4)
  clear hb4
  go_wp2_with fail
  go_ret
  exact ⟨rfl, HB4.out⟩
end Go.Proofs.YtiejmkjpgjbodaaGreatDoor

