/- WALK of lines.each: what it hands back yields the lines, each with what is behind it, as long as the rounds say 'go on'. No statement is proved here. -/
import Derived.Test.YtdeaofnhdbhknaaLineP
import Derived.Test.YtdeaofnhdbhknaaBaseM
import Derived.Test.YtdeaofnhdbhknaaCut
import Derived.Test.YtdeaofnhdbhknaaSzL
import Derived.RangeFuncNested
import Derived.RangeFuncBound
import Derived.RangeFuncCalls
import Derived.RangeFuncLeaves
import Derived.RangeFuncBox
import Derived.Shelf.Abstract
import Derived.Shelf.RegionOpen
import Derived.OwnWalkIn
import Derived.TacticsInMore
import Derived.LoopNIn
import Derived.LoopIn
namespace Go.Proofs.Ytdeaofnhdbhknaa
open Go.RowKit Go.Shelf
set_option linter.unusedVariables false
set_option linter.unusedSimpArgs false
set_option maxRecDepth 100000
attribute [local go_sem] Oper.semAt_some

theorem below_grown {w w' : World} (hb : Below w.heap.size w w') : w.grownBy w' none := ⟨hb.os, hb.tape, hb.output, hb.size, fun k hk _ => hb.block k hk⟩
theorem abides_below {β : Type} {B : Nat} {J : β → World → Prop} (h : AbidesFrom B J) {s : β} {w w' : World} (hs : J s w) (hb : Below w.heap.size w w') : J s w' :=
  h s w w' none hs (below_grown hb) (fun r e => by cases e)
theorem trimSuffix_cr (l : List UInt8) : Lib.trimSuffix l [13] = trimCR l := by
  rcases List.eq_nil_or_concat l with rfl | ⟨r, c, rfl⟩
  · rfl
  · rw [List.concat_eq_append]
    unfold Lib.trimSuffix trimCR
    rw [List.getLast?_concat, List.dropLast_concat]
    by_cases h : c = 13
    · subst h
      have e : Lib.hasSuffix (r ++ [13]) [13] = true := by simp [Lib.hasSuffix]
      rw [e, if_pos rfl, if_pos rfl]; simp
    · have e : Lib.hasSuffix (r ++ [c]) [13] = false := by
        unfold Lib.hasSuffix
        rw [Bool.eq_false_iff]
        intro hh
        rw [List.isSuffixOf_iff_suffix] at hh
        obtain ⟨t, ht⟩ := hh
        have := congrArg List.getLast? ht
        rw [List.getLast?_concat, List.getLast?_concat] at this
        injection this with this
        exact h this.symm
      rw [e, if_neg (by decide), if_neg (fun e => h (Option.some.inj e))]
abbrev encsP (p : FieldL) : Array Value := #[.string (str p.1), .string (str p.2)]

set_option maxHeartbeats 2000000 in
theorem each1_in (n : Nat) (hn : 2 ≤ n) (l Bn : Nat) (s : ByteArray) (hs : s.size ≤ 70368744177664) (J Jx : List FieldL → World → Prop) (B0 : Nat) (hJ : AbidesFrom B0 J)
    (hY : ∀ pre x W, x.1.length ≤ s.size → J pre W → pre.length < s.size → YieldAt Fence.wide (n - 1) Try.prog l (encsP x) W fun e W' =>
      (e = .returned (.bool true) ∧ J (pre ++ [x]) W' ∧ KeepsWalks W W') ∨ (e = .returned (.bool false) ∧ Jx (pre ++ [x]) W'))
    (W : World) (hBn : W.cell? ⟨Bn, 0, none⟩ = some (.string s)) (h0 : J [] W) :
    CallsIn Fence.wide n Try.prog 47 #[.func (.yield l) #[] #[], .pointer (some ⟨Bn, 0, none⟩)] W fun e W' => (∃ v, e = .returned v) ∧
      ((∃ ys, ys = eachL s.data.toList ∧ J ys W') ∨ (∃ pre, pre <+: eachL s.data.toList ∧ Jx pre W')) := by
  refine callsIn_of_wp Try.func47 rfl trivial ?_ rfl
  simp only [Try.ntmps47, List.size_toArray, List.length_cons, List.length_nil, Nat.reduceAdd, Nat.reduceSub, Array.replicate_succ, Array.replicate_zero, List.push_toArray, List.append_toArray, List.nil_append, List.cons_append]
  gi_wp2
  gi_loopw [3] (fun p wr => ∃ (pre : List FieldL) (r : ByteArray), p = .string r ∧ Hid (eachL s.data.toList = pre ++ eachL r.data.toList) ∧ r.size ≤ s.size ∧ J pre wr)
    (fun p wr => szL p)
  case atStart =>
    exact ⟨[], s, rfl, hide rfl, Nat.le_refl _, h0⟩
  case round =>
    obtain ⟨pre, r, rfl, HE, hrs, hJs⟩ := hrel
    by_cases hr0 : r.data.toList = []
    · have t0 := emptyE hr0
      have HD : Hid (pre = eachL s.data.toList) := hide (by rw [HE.out, hr0, eachL_nil, List.append_nil])
      clear hr0
      gi_wp2
      go_end0
      exact ⟨⟨_, rfl⟩, .inl ⟨pre, HD.out, hJs⟩⟩
    have t0 := emptyN hr0
    have hE2 := eachL_cons hr0
    have HE2 : Hid (eachL s.data.toList = (pre ++ [(lineL r.data.toList, afterC 10 r.data.toList)]) ++ eachL (afterC 10 r.data.toList)) := hide (by rw [HE.out, hE2]; simp)
    have hpl : pre.length < s.size := by
      have h1 := (each_sum s.data.toList).2.1
      rw [HE2.out] at h1
      simp at h1
      have := toList_length s
      simp at this
      omega
    have haf := afterC_lt 10 hr0
    rw [toList_length] at haf
    obtain ⟨x, hx⟩ : ∃ x : FieldL, x = (lineL r.data.toList, afterC 10 r.data.toList) := ⟨_, rfl⟩
    obtain ⟨LN, hLN⟩ : ∃ LN, LN = str x.1 := ⟨_, rfl⟩
    obtain ⟨AF, hAF⟩ : ∃ AF, AF = str x.2 := ⟨_, rfl⟩
    have hAFs : AF.size < r.size := by rw [hAF, str_size, hx]; exact haf
    have HS : Hid (AF.size < r.size ∧ AF.size ≤ s.size) := hide ⟨hAFs, by omega⟩
    have HE3 : Hid (eachL s.data.toList = (pre ++ [x]) ++ eachL AF.data.toList) := hide (by rw [hAF, str_toList, hx]; exact HE2.out)
    have hxl : x.1.length ≤ s.size := by
      have h1 := (each_sum s.data.toList).2.2 x (by rw [HE2.out, hx]; simp)
      rw [toList_length] at h1; exact h1.1
    have HR := hide (fun W => hY pre x W hxl)
    clear hxl
    have HLN := hide hLN
    have HAF := hide hAF
    have HPL := hide hpl
    have hrm : r.size ≤ 70368744177664 := by omega
    clear hE2 HE2 haf HE hY hpl hAFs
    cases hh : hasC 10 r.data.toList with
    | false =>
      have HC : Hid (cutV 10 r.data.toList = .tuple #[.string LN, .string AF, .bool false]) := hide (by
        unfold cutV
        rw [hh, hLN, hAF, hx]
        unfold lineL
        rw [hh, if_neg (by decide)]
        rcases cut_case 10 r.data.toList with ⟨_, e1, _⟩ | ⟨a, q, e0, _⟩
        · rw [e1]
        · rw [hasC_true (by rw [e0]; simp)] at hh; cases hh)
      clear hh hr0 hx hLN hAF
      gi_wp2
      refine ⟨trivial, fun _ => (by omega), (callsIn_wide.2 (strCut_any r 10 _ hrm)).mono ?_⟩
      rintro e w1 ⟨rfl, hb1⟩
      rw [HC.out]
      have hJ1 := abides_below hJ hJs hb1
      obtain ⟨fn, tmps, assign, body, hy, hRd⟩ := HR.out w1 hJ1 HPL.out
      dsimp only [encsP] at hy
      rw [← HLN.out, ← HAF.out] at hy
      gi_wp2
      refine ⟨fun _ => (by omega), hRd.mono ?_⟩
      rintro e W3 (⟨rfl, hJ3, hk3⟩ | ⟨rfl, hJx3⟩)
      · gi_wp2
        go_roundw
        case rel => exact ⟨pre ++ [x], AF, rfl, HE3, HS.out.2, hJ3⟩
        case measure => exact HS.out.1
      · gi_wp2
        refine bodyPost_ret (results_none rfl _ _ _) rfl ?_
        exact ⟨⟨_, rfl⟩, .inr ⟨pre ++ [x], ⟨_, HE3.out.symm⟩, hJx3⟩⟩
    | true =>
      have HC : Hid (cutV 10 r.data.toList = .tuple #[.string (str (beforeC 10 r.data.toList)), .string AF, .bool true]) := hide (by
        unfold cutV; rw [hh, hAF, hx])
      have HT : Hid ((⟨(Lib.trimSuffix (str (beforeC 10 r.data.toList)).data.toList [13]).toArray⟩ : ByteArray) = LN) := hide (by
        rw [str_toList, trimSuffix_cr, hLN, hx]
        unfold lineL
        rw [hh, if_pos rfl]; rfl)
      have hbs : (str (beforeC 10 r.data.toList)).size ≤ 9223372036854775807 := by
        rw [str_size]
        have h1 : (beforeC 10 r.data.toList).length ≤ r.data.toList.length := (List.takeWhile_sublist _).length_le
        rw [toList_length] at h1; omega
      obtain ⟨BF, hBF⟩ : ∃ BF, BF = str (beforeC 10 r.data.toList) := ⟨_, rfl⟩
      rw [← hBF] at HC HT hbs
      have HBS := hide hbs
      clear hh hr0 hx hLN hAF hBF hbs
      gi_wp2
      refine ⟨trivial, fun _ => (by omega), (callsIn_wide.2 (strCut_any r 10 _ hrm)).mono ?_⟩
      rintro e w1 ⟨rfl, hb1⟩
      rw [HC.out]
      have hJ1 := abides_below hJ hJs hb1
      clear hb1
      gi_wp2
      refine ⟨trivial, fun _ => (by omega), (callsIn_wide.2 (Try.strings_TrimSuffix BF ⟨#[13]⟩ _ HBS.out)).mono ?_⟩
      rintro e w2 ⟨rfl, rfl⟩
      rw [show (⟨#[13]⟩ : ByteArray).data.toList = [13] from rfl, HT.out]
      obtain ⟨fn, tmps, assign, body, hy, hRd⟩ := HR.out _ hJ1 HPL.out
      dsimp only [encsP] at hy
      rw [← HLN.out, ← HAF.out] at hy
      gi_wp2
      refine ⟨fun _ => (by omega), hRd.mono ?_⟩
      rintro e W3 (⟨rfl, hJ3, hk3⟩ | ⟨rfl, hJx3⟩)
      · gi_wp2
        go_roundw
        case rel => exact ⟨pre ++ [x], AF, rfl, HE3, HS.out.2, hJ3⟩
        case measure => exact HS.out.1
      · gi_wp2
        refine bodyPost_ret (results_none rfl _ _ _) rfl ?_
        exact ⟨⟨_, rfl⟩, .inr ⟨pre ++ [x], ⟨_, HE3.out.symm⟩, hJx3⟩⟩

set_option maxHeartbeats 1000000 in
/-- each(s): the text is boxed; what is handed back has captured the box -/
theorem each_in (n : Nat) (hn : 1 ≤ n) (s : ByteArray) (w : World) :
    CallsIn Fence.wide n Try.prog 34 #[.string s] w fun e w' => e = .returned (.func (.func 47) #[] #[.pointer (some ⟨w.heap.size, 0, none⟩)]) ∧ w' = w.alloc (.cells #[.string s] 9) := by
  refine callsIn_of_wp Try.func34 rfl trivial ?_ rfl
  simp only [Try.ntmps34, List.size_toArray, List.length_cons, List.length_nil, Nat.reduceAdd, Nat.reduceSub, Array.replicate_succ, Array.replicate_zero, List.push_toArray, List.append_toArray, List.nil_append, List.cons_append]
  gi_wp2
  go_ret
  exact ⟨rfl, rfl⟩
/-- its contract -/
theorem each_stops (n : Nat) (hn : 2 ≤ n) (Bn : Nat) (s : ByteArray) (hs : s.size ≤ 70368744177664) (w : World) (hBn : Bn < w.heap.size) (hc : w.cell? ⟨Bn, 0, none⟩ = some (.string s)) :
    SeqStopsK Fence.wide n Try.prog 47 #[.pointer (some ⟨Bn, 0, none⟩)] encsP KeepsWalks (fun ys => ys = eachL s.data.toList) (fun pre => pre <+: eachL s.data.toList) s.size w := fun l J Jx W hW hJ hJx hY h0 =>
  each1_in n hn l Bn s hs J Jx W.heap.size hJ (fun pre x W _ => hY pre x W) W ((hW.cell (p := ⟨Bn, 0, none⟩) hBn).trans hc) h0
/-- a line of at most so many bytes, with what is behind it -/
abbrev LineP := { p : FieldL // p.1.length ≤ 1048576 }
abbrev encsQ (p : LineP) : Array Value := encsP p.1
/-- the same, for a body that wants to know that no line is too long -/
theorem each_stopsP (n : Nat) (hn : 2 ≤ n) (Bn : Nat) (s : ByteArray) (hs : s.size ≤ 1048576) (w : World) (hBn : Bn < w.heap.size) (hc : w.cell? ⟨Bn, 0, none⟩ = some (.string s)) :
    SeqStopsK Fence.wide n Try.prog 47 #[.pointer (some ⟨Bn, 0, none⟩)] encsQ KeepsWalks (fun ys => ys.map (·.1) = eachL s.data.toList) (fun pre => pre.map (·.1) <+: eachL s.data.toList) s.size w := fun l J Jx W hW hJ hJx hY h0 => by
  have hn' : ∀ {K : List LineP → World → Prop}, AbidesFrom W.heap.size K → AbidesFrom W.heap.size (fun (pre : List FieldL) W => ∃ q : List LineP, q.map (·.1) = pre ∧ K q W) := by
    rintro K hK pre A B row ⟨q, hq, hj⟩ hg hr
    exact ⟨q, hq, hK q A B row hj hg hr⟩
  refine (each1_in n hn l Bn s (by omega) (fun pre W => ∃ q : List LineP, q.map (·.1) = pre ∧ J q W) (fun pre W => ∃ q : List LineP, q.map (·.1) = pre ∧ Jx q W) W.heap.size (hn' hJ) ?_ W ((hW.cell (p := ⟨Bn, 0, none⟩) hBn).trans hc) ⟨[], rfl, h0⟩).mono ?_
  · rintro pre x W hx ⟨q, rfl, hj⟩ hl
    refine (hY q ⟨x, by omega⟩ W hj (by simpa using hl)).mono ?_
    rintro e W' (⟨rfl, h2, h3⟩ | ⟨rfl, h2⟩)
    · exact .inl ⟨rfl, ⟨_, by simp, h2⟩, h3⟩
    · exact .inr ⟨rfl, ⟨_, by simp, h2⟩⟩
  · rintro e W' ⟨hv, (⟨ys, rfl, q, hq, hj⟩ | ⟨pre, hp, q, rfl, hj⟩)⟩
    · exact ⟨hv, .inl ⟨q, hq, hj⟩⟩
    · exact ⟨hv, .inr ⟨q, hp, hj⟩⟩
end Go.Proofs.Ytdeaofnhdbhknaa
