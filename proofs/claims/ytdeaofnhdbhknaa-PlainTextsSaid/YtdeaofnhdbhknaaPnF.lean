/- WALK of plain.nodes. No statement is proved here. Own work of the verifier. -/
import Derived.Test.YtdeaofnhdbhknaaPnE
namespace Go.Proofs.Ytdeaofnhdbhknaa
open Go.RowKit
set_option linter.unusedVariables false
set_option linter.unusedSimpArgs false
set_option maxRecDepth 100000
def NodesQ (lv : Nat) : Prop := ∀ (v : Value) (l : List LnL) (w : World), l ≠ [] → l.length ≤ 1000000 → (∀ p ∈ l, lv ≤ p.1 ∧ p.1 ≤ 20) → LnIn w v l →
    Calls Try.prog 23 #[v, .int .i64 (lv : Int)] w fun e w' => ∃ u, e = .returned u ∧ NodesC (FreshB w.heap.size w') w' u (treeP (l.map (lowBy lv))) ∧ Below w.heap.size w w'
theorem FreshB.up {B B' : Nat} {w : World} {v : Value} {T : Tr} (h : NodesC (FreshB B' w) w v T) (hB : B ≤ B') : NodesC (FreshB B w) w v T := h.mono (fun _ _ => rfl) (fun b hb => ⟨Nat.le_trans hB hb.1, hb.2⟩)
theorem below_drew (w : World) : Below w.heap.size w w.drew := ⟨rfl, rfl, rfl, Nat.le_refl _, fun _ _ => rfl⟩
theorem wrap64_self {x : Int} (h1 : -9223372036854775808 ≤ x) (h2 : x ≤ 9223372036854775807) : wrap64 x = x := by unfold wrap64; omega
set_option maxHeartbeats 4000000 in
theorem nodes_step (lv : Nat) (IH : NodesQ (lv + 1)) (v : Value) (l : List LnL) (w : World) (hlen : l.length ≤ 1000000) (hl : ∀ p ∈ l, lv ≤ p.1 ∧ p.1 ≤ 20) (hin : LnIn w v l) (hlv : lv ≤ 20) :
    Calls Try.prog 23 #[v, .int .i64 (lv : Int)] w fun e w' => ∃ u, e = .returned u ∧ NodesC (FreshB w.heap.size w') w' u (treeP (l.map (lowBy lv))) ∧ Below w.heap.size w w' := by
  obtain ⟨A, c, rfl⟩ := hin.form
  have H := hide hin
  have HIH := hide IH
  have HL := hide hl
  clear hin IH hl
  have hKh : ∀ args w, (callFunc 35 args).run Try.prog w = .ok (.enter 35 args) w := enters_of Try.func35 (by kernel_rfl) rfl
  have hKd : ∀ args w, (callFunc 36 args).run Try.prog w = .ok (.enter 36 args) w := enters_of Try.func36 (by kernel_rfl) rfl
  have HKH := hide hKh
  have HKD := hide hKd
  have hb0 := below_one w (.cells #[.int .i64 (lv : Int)] 3)
  have HX0 : Hid ((w.alloc (.cells #[.int .i64 (lv : Int)] 3)).heap[w.heap.size]? = some (.cells #[.int .i64 (lv : Int)] 3 (0, 0))) := hide (heap_alloc_new w _)
  have HO0 := hide ((OutT.nil w).kept hb0)
  clear hb0 hKh hKd
  go_enter Try.func23, Try.ntmps23
  go_wp2_with fail
  go_loopw [0, 7] (fun lval ov wr => ∃ (r : List LnL) (A0 : Option Addr) (c0 : Nat) (T : Tr) (A1 : Option Addr) (c1 : Nat), lval = .slice A0 r.length c0 ∧ ov = .slice A1 T.len c1 ∧ r.length ≤ l.length ∧ Hid (LnIn w (.slice A0 r.length c0) r) ∧ Hid (OutT w.heap.size (.slice A1 T.len c1) T w wr) ∧ Hid (T.app (treeP (r.map (lowBy lv))) = treeP (l.map (lowBy lv))) ∧ Hid (∀ p ∈ r, lv ≤ p.1 ∧ p.1 ≤ 20) ∧ Hid (wr.heap[w.heap.size]? = some (.cells #[.int .i64 (lv : Int)] 3 (0, 0))) ∧ Hid (T.len + 2 * r.length ≤ 2 * l.length)) (fun lval _ _ => match lval with | .slice _ n _ => n | _ => 0)
  case atStart => exact ⟨l, A, c, .nil, none, 0, rfl, rfl, Nat.le_refl _, H, HO0, hide rfl, HL, HX0, hide (by simp [Tr.len])⟩
  case round =>
    obtain ⟨r, A0, c0, T, A1, c1, rfl, rfl, hrl, HR, HO, HT, HP, HX, HN⟩ := hrel
    by_cases hr : r = []
    · have h0 : r.length = 0 := by rw [hr]; rfl
      have t1 : decide ((0 : Int) < (r.length : Int)) = false := by rw [h0]; rfl
      have HT2 : Hid (T = treeP (l.map (lowBy lv))) := hide (by rw [← HT.out, hr]; exact (Tr.app_nil T).symm)
      have hn0 : ¬ (0 < r.length) := by omega
      clear hr h0
      go_wp2_with fail
      go_ret
      refine ⟨_, rfl, ?_, HO.out.below⟩
      have := HO.out.nodes
      rw [← HT2.out]
      exact this
    · obtain ⟨HRT, hless⟩ := round_tree lv r (fun p hp => (HP.out p hp).1)
      obtain ⟨a0, rfl, -, hcap, hmax, hat⟩ := HR.out.some hr
      unfold maxLen at hmax
      obtain ⟨ea1, ea2⟩ := take_while (isAt lv) r
      obtain ⟨eb1, eb2⟩ := take_while (isIn lv) (r.dropWhile (isAt lv))
      obtain ⟨na, hna⟩ : ∃ n, n = (r.takeWhile (isAt lv)).length := ⟨_, rfl⟩
      obtain ⟨nb, hnb⟩ : ∃ n, n = ((r.dropWhile (isAt lv)).takeWhile (isIn lv)).length := ⟨_, rfl⟩
      obtain ⟨x, hx⟩ : ∃ x, x = r.dropWhile (isAt lv) := ⟨_, rfl⟩
      obtain ⟨b, hb⟩ : ∃ b, b = x.takeWhile (isIn lv) := ⟨_, rfl⟩
      obtain ⟨y, hy⟩ : ∃ y, y = x.dropWhile (isIn lv) := ⟨_, rfl⟩
      obtain ⟨q, hq⟩ : ∃ q, q = r.takeWhile (isAt lv) := ⟨_, rfl⟩
      rw [← hx] at ea2 eb1 eb2 hnb HRT hless
      rw [← hb] at hnb eb1 eb2 HRT
      rw [← hy] at eb2 HRT hless
      rw [← hq] at hna ea1 ea2 HRT
      rw [← hna] at ea1 ea2
      rw [← hnb] at eb1 eb2
      have hle : na ≤ r.length := by rw [hna, hq]; exact takeWhile_len _ _
      have hxl : x.length = r.length - na := by rw [← ea2, List.length_drop]
      have hble : nb ≤ x.length := by rw [hnb, hb]; exact takeWhile_len _ _
      have hyl : y.length = x.length - nb := by rw [← eb2, List.length_drop]
      have hpos : 0 < r.length := List.length_pos_iff.2 hr
      have hless' := hless hr
      have hq2 : (saidP (q.map (·.2))).len ≤ 2 * na := by
        have := saidP_len (q.map (·.2)); rw [List.length_map] at this; omega
      have hcb : wr.cell? ⟨w.heap.size, 0, none⟩ = some (.int .i64 (lv : Int)) := (Lib.cell_of_heap HX.out 0).trans rfl
      have HC1 := hide (rowSize_any _ w.heap.size lv (isAt lv) HKH.out (here_any w.heap.size lv) _ r wr (HR.out.kept HO.out.below) (by omega) (fun p hp => (HP.out p hp).2) hcb)
      rw [← hq, ← hna] at HC1
      have HQIN : Hid (LnIn w (.slice (some a0) na c0) q) := hide (.inr ⟨a0, c0, by rw [← hna], by omega, by unfold maxLen; omega, by
        have := hat.take na
        rw [ea1] at this; exact this⟩)
      have HXIN : Hid (LnAt w (a0.add (na * 2)) x) := hide (by
        have := hat.drop na
        rw [ea2] at this; exact this)
      have HXL : Hid (x.length = r.length - na ∧ nb ≤ x.length ∧ y.length = x.length - nb ∧ b.length = nb ∧ y.length < r.length ∧ na ≤ r.length) := hide ⟨hxl, hble, hyl, hnb.symm, hless', hle⟩
      have HEB := hide (And.intro eb1 eb2)
      have HBD : Hid (b = x.takeWhile (isIn lv)) := hide hb
      have HPX : Hid (∀ p ∈ x, lv ≤ p.1 ∧ p.1 ≤ 20) := hide (fun p hp => HP.out p (by rw [← ea2] at hp; exact List.mem_of_mem_drop hp))
      have HPB : Hid (∀ p ∈ b, lv + 1 ≤ p.1 ∧ p.1 ≤ 20) := hide (fun p hp => by
        rw [hb] at hp
        exact ⟨of_decide_eq_true (while_all (isIn lv) x p hp), (HPX.out p ((List.takeWhile_sublist _).subset hp)).2⟩)
      have HPY : Hid (∀ p ∈ y, lv ≤ p.1 ∧ p.1 ≤ 20) := hide (fun p hp => HPX.out p (by rw [← eb2] at hp; exact List.mem_of_mem_drop hp))
      have HQ2 := hide hq2
      have HQN : Hid (q.length = na) := hide hna.symm
      have HCB := hide (And.intro hcap hmax)
      have HNE : Hid ((Value.slice A1 T.len c1).ownBlock ≠ some w.heap.size) := hide (by
        obtain ⟨ks, h1, _⟩ := HO.out.row
        exact ownsRow_other h1.row (r := w.heap.size) (fun cur e => by rw [HX.out] at e; injection e with e; injection e with _ e; exact absurd e (by decide)))
      have hna0 : (na : Int) ≤ c0 := by omega
      have hna1 : (na : Int) ≤ r.length := by omega
      have hnc : na ≤ c0 := by omega
      have t1 : decide ((0 : Int) < (r.length : Int)) = true := decide_eq_true (by omega)
      clear hxl hble hyl hnb hless' hb hy hq hx hna ea1 ea2 eb1 eb2 hless hq2 hat hcb hcap hmax
      replace HRT := hide HRT
      have HRL := hide hrl
      have HLN := hide hlen
      go_wp2_with fail
      refine HC1.out.mono ?_
      rintro e w1 ⟨rfl, hb1⟩
      have HB1 := hide hb1
      have HBW1 := hide (HO.out.below.trans (hb1.mono HO.out.size))
      have HS1 := hide (said_any _ q w1 (HQIN.out.kept HBW1.out) (by rw [HQN.out]; omega))
      clear hb1 HC1 HQIN
      go_wp2_with fail
      refine HS1.out.mono ?_
      rintro e w2 ⟨u2, rfl, hn2, hb2⟩
      obtain ⟨U, hU⟩ : ∃ U, U = saidP (q.map (·.2)) := ⟨_, rfl⟩
      rw [← hU] at hn2
      obtain ⟨A2, c2, rfl⟩ := hn2.form
      have HN2 : Hid (NodesC (FreshB wr.heap.size w2) w2 (.slice A2 U.len c2) U) := hide (FreshB.up hn2 HB1.out.size)
      have HB2 : Hid (Below wr.heap.size wr w2) := hide (bl_two HB1.out hb2)
      have HX2 : Hid (w2.heap[w.heap.size]? = some (.cells #[.int .i64 (lv : Int)] 3 (0, 0))) := hide ((HB2.out.block _ (lt_of_block HX.out)).trans HX.out)
      have HUL : Hid (U.len ≤ 2 * na ∧ T.len + U.len ≤ 1073741824) := hide ⟨by rw [hU]; exact HQ2.out, by have h1 := HQ2.out; rw [← hU] at h1; have h2 := HN.out; have h3 := HXL.out.2.2.2.2.2; omega⟩
      have HU := hide hU
      clear hn2 hb2 HS1 hU
      by_cases hcn : c0 = na
      · -- nothing is behind what is said
        have hxe : x = [] := List.eq_nil_of_length_eq_zero (by have := HXL.out; have := HCB.out; omega)
        have hx0 : x.length = 0 := by rw [hxe]; rfl
        have hnb0 : nb = 0 := by have := HXL.out; omega
        obtain ⟨nZ, hnZ⟩ : ∃ n, n = r.length - c0 := ⟨_, rfl⟩
        have HNZ : Hid (nZ = 0 ∧ y.length = 0) := hide (by have := HXL.out; omega)
        have HXV : Hid (LnIn w (.slice (some a0) nZ 0) x) := hide (.inr ⟨a0, 0, by rw [hxe, HNZ.out.1]; rfl, by rw [hxe]; exact Nat.le_refl _, Nat.zero_le _, by rw [hxe]; exact fun j p h => (by simp at h)⟩)
        have HZZ := hide hnZ
        have HYV : Hid (y = [] ∧ b = []) := hide (by have := HXL.out; exact ⟨List.eq_nil_of_length_eq_zero (by omega), List.eq_nil_of_length_eq_zero (by omega)⟩)
        have HNB := hide hnb0
        have HXE := hide hxe
        subst hcn
        clear hxe hnb0 hx0 hnZ
        go_wp2_with (
          refine wpList_outs rfl _ _ rfl w.heap.size (.slice A1 T.len c1) T w wr w2 rfl _ U HO.out HB2.out HN2.out rfl HUL.out.2 ?_
          intro v' w3 hO' hg' hw'
          obtain ⟨A3, c3, rfl⟩ := hO'.form
          obtain ⟨T3, hT3⟩ : ∃ X, X = T.app U := ⟨_, rfl⟩
          rw [← hT3] at hO'
          rw [← hT3]
          have HO3 := hide hO'
          have HT3 := hide hT3
          have HX3 : Hid (w3.heap[w.heap.size]? = some (.cells #[.int .i64 (lv : Int)] 3 (0, 0))) := hide ((hg'.block _ (lt_of_block HX2.out) (fun e => HNE.out e.symm)).trans HX2.out)
          clear hO' hT3 hg' hw')
        have HL3 : Hid (T3.len = T.len + U.len) := hide (by rw [HT3.out, ← Tr.len_list, Tr.list_app, List.length_append, Tr.len_list, Tr.len_list])
        have HTX : Hid (T3.app ((if b = [] then .nil else .cons quH (treeP (b.map (lowBy (lv + 1)))) .nil : Tr).app (treeP (y.map (lowBy lv)))) = treeP (l.map (lowBy lv))) := hide (by
          rw [← HT.out, HRT.out, HT3.out, HU.out, Tr.app_assoc, Tr.app_assoc])
        have hcb3 : w3.cell? ⟨w.heap.size, 0, none⟩ = some (.int .i64 (lv : Int)) := (Lib.cell_of_heap HX3.out 0).trans rfl
        have HC3 := hide (rowSize_any _ w.heap.size lv (isIn lv) HKD.out (deeper_any w.heap.size lv) _ x w3 (HXV.out.kept HO3.out.below) (by have := HXL.out; omega) (fun p hp => (HPX.out p hp).2) hcb3)
        rw [← HBD.out, HXL.out.2.2.2.1] at HC3
        clear hcb3 HB2 HX2 HN2 HUL HO HT HRT
        rw [← HZZ.out]
        (with_reducible refine HC3.out.mono ?_)
        rintro e w4 ⟨rfl, hb4⟩
        have HB4 := hide hb4
        have HO4 := hide (HO3.out.kept hb4)
        have HX4 : Hid (w4.heap[w.heap.size]? = some (.cells #[.int .i64 (lv : Int)] 3 (0, 0))) := hide ((hb4.block _ (lt_of_block HX3.out)).trans HX3.out)
        clear hb4 HC3
        have t4 : decide ((0 : Int) < (nb : Int)) = false := decide_eq_false (by have := HNB.out; omega)
        have t4n : ¬ (0 < nb) := by have := HNB.out; omega
        have hz0 : (nb : Int) ≤ 0 := by have := HNB.out; omega
        have hz1 : nb ≤ 0 := by have := HNB.out; omega
        have hz2 : nb = 0 := HNB.out
        have hz3 : (nb : Int) ≤ nZ := by have := HNB.out; omega
        have hz4 : nb ≤ nZ := by have := HNB.out; omega
        go_wp2_with fail
        go_roundw
        case rel =>
          have hy := HYV.out.1
          refine ⟨y, some a0, 0, T3, A3, c3, by first | rw [show nZ - nb = y.length from by have := HNZ.out; omega] | rw [show nZ = y.length from by have := HNZ.out; omega], rfl, by rw [hy]; exact Nat.zero_le _, hide ?_, HO4, hide ?_, HPY, HX4, hide ?_⟩
          · rw [hy]; exact .inr ⟨a0, 0, rfl, Nat.le_refl _, Nat.zero_le _, fun j p h => (by simp at h)⟩
          · have := HTX.out; rw [if_pos HYV.out.2] at this; exact this
          · have h1 := HL3.out; have h2 := HN.out; have h3 := HQ2.out; rw [hy]; rw [← HU.out] at h3; simp only [List.length_nil]; omega
        case measure => have := HXL.out; have := HNZ.out; simp only; omega
      · have hxl := HXL.out
        have hcb := HCB.out
        have hcn' : ¬ c0 = na := hcn
        have HXV : Hid (LnIn w (.slice (some (a0.add (na * 2))) (r.length - na) (c0 - na)) x) := hide (.inr ⟨_, c0 - na, by rw [hxl.1], by omega, by unfold maxLen; omega, HXIN.out⟩)
        clear hxl hcb
        go_wp2_with (
          refine wpList_outs rfl _ _ rfl w.heap.size (.slice A1 T.len c1) T w wr w2 rfl _ U HO.out HB2.out HN2.out rfl HUL.out.2 ?_
          intro v' w3 hO' hg' hw'
          obtain ⟨A3, c3, rfl⟩ := hO'.form
          obtain ⟨T3, hT3⟩ : ∃ X, X = T.app U := ⟨_, rfl⟩
          rw [← hT3] at hO'
          rw [← hT3]
          have HO3 := hide hO'
          have HT3 := hide hT3
          have HX3 : Hid (w3.heap[w.heap.size]? = some (.cells #[.int .i64 (lv : Int)] 3 (0, 0))) := hide ((hg'.block _ (lt_of_block HX2.out) (fun e => HNE.out e.symm)).trans HX2.out)
          clear hO' hT3 hg' hw')
        have HL3 : Hid (T3.len = T.len + U.len) := hide (by rw [HT3.out, ← Tr.len_list, Tr.list_app, List.length_append, Tr.len_list, Tr.len_list])
        have HTX : Hid (T3.app ((if b = [] then .nil else .cons quH (treeP (b.map (lowBy (lv + 1)))) .nil : Tr).app (treeP (y.map (lowBy lv)))) = treeP (l.map (lowBy lv))) := hide (by
          rw [← HT.out, HRT.out, HT3.out, HU.out, Tr.app_assoc, Tr.app_assoc])
        have hcb3 : w3.cell? ⟨w.heap.size, 0, none⟩ = some (.int .i64 (lv : Int)) := (Lib.cell_of_heap HX3.out 0).trans rfl
        have HC3 := hide (rowSize_any _ w.heap.size lv (isIn lv) HKD.out (deeper_any w.heap.size lv) _ x w3 (HXV.out.kept HO3.out.below) (by have := HXL.out; omega) (fun p hp => (HPX.out p hp).2) hcb3)
        rw [← HBD.out, HXL.out.2.2.2.1] at HC3
        clear hcb3 HB2 HX2 HN2 HUL HO HT HRT
        (with_reducible refine HC3.out.mono ?_)
        rintro e w4 ⟨rfl, hb4⟩
        have HB4 := hide hb4
        have HO4 := hide (HO3.out.kept hb4)
        have HX4 : Hid (w4.heap[w.heap.size]? = some (.cells #[.int .i64 (lv : Int)] 3 (0, 0))) := hide ((hb4.block _ (lt_of_block HX3.out)).trans HX3.out)
        clear hb4 HC3
        obtain ⟨AX, hAX⟩ : ∃ AX, AX = a0.add (na * 2) := ⟨_, rfl⟩
        obtain ⟨nX, hnX⟩ : ∃ nX, nX = r.length - na := ⟨_, rfl⟩
        obtain ⟨cX, hcX⟩ : ∃ cX, cX = c0 - na := ⟨_, rfl⟩
        have HNX : Hid (nX = x.length ∧ nX ≤ cX ∧ cX ≤ 2 ^ 63 - 1) := hide (by have := HXL.out; have := HCB.out; omega)
        rw [← hAX, ← hnX, ← hcX] at HXV ⊢
        have HAX := hide (And.intro hAX (And.intro hnX hcX))
        clear hAX hnX hcX hcn' hcn
        have hz0 : (nb : Int) ≤ cX := by have := HNX.out; have := HXL.out; omega
        have hz1 : nb ≤ cX := by have := HNX.out; have := HXL.out; omega
        have hz2 : (nb : Int) ≤ nX := by have := HNX.out; have := HXL.out; omega
        have HYD : Hid (cX ≠ nb → LnIn w (.slice (some (AX.add (nb * 2))) (nX - nb) (cX - nb)) y) := hide (fun hne => .inr ⟨_, cX - nb, by rw [HXL.out.2.2.1, HNX.out.1], by have := HXL.out; have := HNX.out; omega, by unfold maxLen; have := HNX.out; omega, by
          obtain ⟨a', e1, _, _, _, h4⟩ : ∃ a', some AX = some a' ∧ True ∧ True ∧ True ∧ LnAt w a' x := by
            rcases HXV.out with ⟨h0, _⟩ | ⟨a', cap', h0, _, _, h4⟩
            · cases h0
            · injection h0 with h0 _ _
              exact ⟨a', h0, trivial, trivial, trivial, h4⟩
          injection e1 with e1
          subst e1
          have := h4.drop nb
          rw [HEB.out.2] at this; exact this⟩)
        have HYN : Hid (cX = nb → y = []) := hide (fun he => List.eq_nil_of_length_eq_zero (by have := HXL.out; have := HNX.out; omega))
        have HYL : Hid (nX - nb = y.length) := hide (by have := HXL.out; have := HNX.out; omega)
        by_cases hnb : nb = 0
        · have t4 : decide ((0 : Int) < (nb : Int)) = false := decide_eq_false (by omega)
          have t4n : ¬ (0 < nb) := by omega
          have HBE : Hid (b = []) := hide (List.eq_nil_of_length_eq_zero (by have := HXL.out; omega))
          have HTY : Hid (T3.app (treeP (y.map (lowBy lv))) = treeP (l.map (lowBy lv))) := hide (by have := HTX.out; rw [if_pos HBE.out] at this; exact this)
          have HNB := hide hnb
          clear hnb
          have HTL : Hid (T3.len + 2 * y.length ≤ 2 * l.length) := hide (by have h1 := HL3.out; have h2 := HN.out; have h3 := HQ2.out; rw [← HU.out] at h3; have h4 := HXL.out; omega)
          by_cases hce : cX = nb
          · have HYE := hide (HYN.out hce)
            subst hce
            go_wp2_with fail
            go_roundw
            case rel =>
              have hy := HYE.out
              refine ⟨y, some AX, 0, T3, A3, c3, by rw [HYL.out], rfl, by rw [hy]; exact Nat.zero_le _, hide ?_, HO4, HTY, HPY, HX4, HTL⟩
              rw [hy]; exact .inr ⟨AX, 0, rfl, Nat.le_refl _, Nat.zero_le _, fun j p h => (by simp at h)⟩
            case measure => have h1 := HXL.out; have h2 := HYL.out; simp only; omega
          · have HYI := hide (HYD.out hce)
            rw [HYL.out] at HYI
            go_wp2_with fail
            go_roundw
            case rel => exact ⟨y, some (AX.add (nb * 2)), cX - nb, T3, A3, c3, by rw [HYL.out], rfl, by have h1 := HXL.out; have h2 := HRL.out; omega, HYI, HO4, HTY, HPY, HX4, HTL⟩
            case measure => have h1 := HXL.out; have h2 := HYL.out; simp only; omega
        · have t4 : decide ((0 : Int) < (nb : Int)) = true := decide_eq_true (by omega)
          have hnp : 0 < nb := by omega
          have hbne : b ≠ [] := fun e => by have := HXL.out; rw [e] at this; simp at this; omega
          have HBX : Hid (∀ w', Below w.heap.size w w' → LnIn w' (.slice (some AX) nb cX) b) := hide (fun w' hw' => by
            rcases HXV.out with ⟨h0, _⟩ | ⟨a', cap', h0, _, _, h4⟩
            · cases h0
            · injection h0 with h0 _ _
              injection h0 with h0
              subst h0
              refine .inr ⟨AX, cX, by rw [HXL.out.2.2.2.1], by have := HXL.out; have := HNX.out; omega, by unfold maxLen; have := HNX.out; omega, ?_⟩
              have := (h4.kept hw').take nb
              rw [HEB.out.1] at this; exact this)
          have HCN : Hid (∀ w', Below w.heap.size w w' → Calls Try.prog 23 #[.slice (some AX) nb cX, .int .i64 ((lv : Int) + 1)] w' fun e w'' => ∃ u, e = .returned u ∧ NodesC (FreshB w'.heap.size w'') w'' u (treeP (b.map (lowBy (lv + 1)))) ∧ Below w'.heap.size w' w'') := hide (fun w' hw' => HIH.out _ b w' hbne (by have := HXL.out; have := HRL.out; have := HLN.out; omega) HPB.out (HBX.out w' hw'))
          have HTY : Hid ((T3.app (.cons quH (treeP (b.map (lowBy (lv + 1)))) .nil)).app (treeP (y.map (lowBy lv))) = treeP (l.map (lowBy lv))) := hide (by have := HTX.out; rw [if_neg hbne] at this; rw [Tr.app_assoc]; exact this)
          have HNB := hide hnb
          have hcb4 : w4.cell? ⟨w.heap.size, 0, none⟩ = some (.int .i64 (lv : Int)) := (Lib.cell_of_heap HX4.out 0).trans rfl
          have hcb4d : w4.drew.cell? ⟨w.heap.size, 0, none⟩ = some (.int .i64 (lv : Int)) := hcb4
          have HOD := hide (HO4.out.kept (below_drew w4))
          have HXD : Hid (w4.drew.heap[w.heap.size]? = some (.cells #[.int .i64 (lv : Int)] 3 (0, 0))) := HX4
          have HCD := hide (HCN.out w4.drew HOD.out.below)
          have HLV : Hid ((lv : Int) + 1 ≤ 21) := hide (by omega)
          have hwr : wrap64 ((lv : Int) + 1) = (lv : Int) + 1 := wrap64_self (by omega) (by omega)
          have hwr2 : IntKind.i64.wrap ((lv : Int) + 1) = (lv : Int) + 1 := IntWalk.i64_in _ (by omega)
          have HT3L : Hid (T3.len + 1 ≤ 1073741824) := hide (by have h1 := HL3.out; have h2 := HN.out; have h3 := HQ2.out; rw [← HU.out] at h3; have h4 := HXL.out; have h5 := HRL.out; have h6 := HLN.out; omega)
          have HNE3 : Hid ((Value.slice A3 T3.len c3).ownBlock ≠ some w.heap.size) := hide (by
            obtain ⟨ks, h1, _⟩ := HOD.out.row
            exact ownsRow_other h1.row (r := w.heap.size) (fun cur e => by rw [HXD.out] at e; injection e with e; injection e with _ e; exact absurd e (by decide)))
          have HTL : Hid (T3.len + 1 + 2 * y.length ≤ 2 * l.length) := hide (by have h1 := HL3.out; have h2 := HN.out; have h3 := HQ2.out; rw [← HU.out] at h3; have h4 := HXL.out; omega)
          clear hnb hbne HCN HBX HX4 HO4
          go_wp2_with fail
          go_region_law (first
            | (refine step_out rfl _ _ rfl w.heap.size (.slice A3 T3.len c3) T3 w w4.drew w5 rfl quoN [] _ _ HOD.out HB5.out HN5.out ?_ ?_ ?_ _ rfl rfl HT3L.out ?_
               · exact below_one w5 _
               · exact World.size_alloc ..
               · exact heap_alloc_new w5 _
               intro v' w6 hO' hg' hw'
               obtain ⟨A6, c6, rfl⟩ := hO'.form
               obtain ⟨T6, hT6⟩ : ∃ X, X = T3.app (.cons ⟨quoN, [], []⟩ (treeP (b.map (lowBy (lv + 1)))) .nil) := ⟨_, rfl⟩
               rw [← hT6] at hO'
               rw [← hT6]
               have HO6 := hide hO'
               have HT6 := hide hT6
               have HX6 : Hid (w6.heap[w.heap.size]? = some (.cells #[.int .i64 (lv : Int)] 3 (0, 0))) := hide ((hg'.block _ (Nat.lt_of_lt_of_le (lt_of_block HX5.out) (below_one w5 _).size) (fun e => HNE3.out e.symm)).trans (((below_one w5 _).block _ (lt_of_block HX5.out)).trans HX5.out))
               clear hO' hT6 hg' hw')
            | (go_simp; (with_reducible refine HCD.out.mono ?_); rintro e w5 ⟨u5, rfl, hn5, hb5⟩; obtain ⟨A5, c5, rfl⟩ := hn5.form; have HN5 := hide hn5; have HB5 := hide hb5; have HX5 : Hid (w5.heap[w.heap.size]? = some (.cells #[.int .i64 (lv : Int)] 3 (0, 0))) := hide ((hb5.block _ (lt_of_block HXD.out)).trans HXD.out); clear hn5 hb5))
          all_goals
            have HT6L : Hid (T6.len = T3.len + 1) := hide (by rw [HT6.out, ← Tr.len_list, Tr.list_app, List.length_append, Tr.len_list]; simp [Tr.list])
            rw [show (T3.app (.cons quH (treeP (b.map (lowBy (lv + 1)))) .nil)) = T6 from HT6.out.symm] at HTY
            replace HTL : Hid (T6.len + 2 * y.length ≤ 2 * l.length) := hide (by have h1 := HTL.out; have h2 := HT6L.out; omega)
            by_cases hce : cX = nb
            · have HYE := hide (HYN.out hce)
              subst hce
              go_wp2_with fail
              go_roundw
              case rel =>
                have hy := HYE.out
                refine ⟨y, some AX, 0, T6, A6, c6, by rw [HYL.out], rfl, by rw [hy]; exact Nat.zero_le _, hide ?_, HO6, HTY, HPY, HX6, HTL⟩
                rw [hy]; exact .inr ⟨AX, 0, rfl, Nat.le_refl _, Nat.zero_le _, fun j p h => (by simp at h)⟩
              case measure => have h1 := HXL.out; have h2 := HYL.out; simp only; omega
            · have HYI := hide (HYD.out hce)
              rw [HYL.out] at HYI
              go_wp2_with fail
              go_roundw
              case rel => exact ⟨y, some (AX.add (nb * 2)), cX - nb, T6, A6, c6, by rw [HYL.out], rfl, by have h1 := HXL.out; have h2 := HRL.out; omega, HYI, HO6, HTY, HPY, HX6, HTL⟩
              case measure => have h1 := HXL.out; have h2 := HYL.out; simp only; omega
theorem nodes_all : ∀ d lv, 21 ≤ lv + d → NodesQ lv
  | 0, lv, h => fun v l w hne _ hl _ => by
    obtain ⟨p, q, rfl⟩ := List.exists_cons_of_ne_nil hne
    have := hl p (List.mem_cons_self ..)
    omega
  | d + 1, lv, h => fun v l w hne hlen hl hin => by
    obtain ⟨p, q, e⟩ := List.exists_cons_of_ne_nil hne
    have := hl p (by rw [e]; exact List.mem_cons_self ..)
    exact nodes_step lv (nodes_all d (lv + 1) (by omega)) v l w hlen hl hin (by omega)
theorem nodes_any (v : Value) (l : List LnL) (w : World) (hlen : l.length ≤ 1000000) (hl : ∀ p ∈ l, p.1 ≤ 20) (hin : LnIn w v l) :
    Calls Try.prog 23 #[v, .int .i64 0] w fun e w' => ∃ u, e = .returned u ∧ NodesC (FreshB w.heap.size w') w' u (treeP l) ∧ Below w.heap.size w w' := by
  have := nodes_step 0 (nodes_all 20 1 (by omega)) v l w hlen (fun p hp => ⟨Nat.zero_le _, hl p hp⟩) hin (by omega)
  rw [lowBy_zero] at this
  exact this
end Go.Proofs.Ytdeaofnhdbhknaa
