/- WALK of the writer's end. No statement is proved here. Own work of the verifier. -/
import Derived.Test.YtdeaofnhdbhknaaPnT
import Derived.StillTailTactics
namespace Go.Proofs.Ytdeaofnhdbhknaa
open Go.RowKit
set_option linter.unusedVariables false
set_option linter.unusedSimpArgs false
set_option maxRecDepth 100000
theorem Apart.symm {a b c d : Value} (h : Apart a b c d) : Apart c d a b := fun k hk => ⟨fun e => by
    obtain ⟨h1, h2⟩ := h k (.inl e)
    rcases hk with hk | hk
    · exact h1 hk
    · exact h2 hk, fun e => by
    obtain ⟨h1, h2⟩ := h k (.inr e)
    rcases hk with hk | hk
    · exact h1 hk
    · exact h2 hk⟩
theorem PgW.setWr {B b g j i : Nat} {p : PgL} {ev lv pv bv u : Value} {w : World} (h : PgW B g j p ev lv w) (hb : w.heap[b]? = some (.cells #[pv, bv] 49 (0, 0))) : PgW B g j p ev lv (w.setCell ⟨b, i, none⟩ u) := by
  obtain ⟨cur, hc, c0, c1⟩ := h.blk
  have hgb : g ≠ b := by
    rintro rfl
    exact block_ne hc hb (by decide)
  exact ⟨⟨cur, (Below.heap_setCell w ⟨b, i, none⟩ u g hgb).trans hc, c0, c1⟩, ownsRow_setCell_other h.ln (row_ne_page h.ln hb (by decide)) _, ownsRow_setCell_other h.bt (row_ne_page h.bt hb (by decide)) _, h.Bg⟩
theorem qlen_le (l : List LnL) : qlen l ≤ (l.flatMap fun x => lineS x ++ [10]).length + 2 * l.length := by
  induction l with
  | nil => exact Nat.le_refl _
  | cons x r ih =>
    have ht := trimCR_length x.2
    unfold qlen at *
    simp only [List.map_cons, List.sum_cons, List.flatMap_cons, List.length_append, List.length_cons, List.length_nil]
    have e1 : (lineS (x.1 + 1, trimCR x.2)).length = 2 * (x.1 + 1) + (trimCR x.2).length := by unfold lineS; rw [List.length_append, signs_len]
    have e2 : (lineS x).length = 2 * x.1 + x.2.length := by unfold lineS; rw [List.length_append, signs_len]
    rw [e1, e2]
    omega
theorem ok_two {q p : PgL} {ps : List PgL} {bs : List PlL} {g : Nat} (h : OKW (q :: p :: ps, bs, g)) (hg : g ≤ 1000000) : roomP p (qlen q.1 + q.2.length + 3) ∧ PgOK q ∧ bytW [q] ≤ 4000000000000 := by
  obtain ⟨h1, h2, h3, h4, h5⟩ := h
  have hq := qlen_le q.1
  simp only [lnsW, bytW, List.map_cons, List.sum_cons, List.length_cons, List.map_nil, List.sum_nil] at h2 h3 h4 h5 ⊢
  have r1 : (render q).length = (q.1.flatMap fun x => lineS x ++ [10]).length + q.2.length := by unfold render; rw [List.length_append]
  have r2 : p.2.length ≤ (render p).length := by unfold render; rw [List.length_append]; omega
  exact ⟨⟨by omega, by omega⟩, h1 q (List.mem_cons_self ..), by omega⟩
theorem popB_drew {B b g c : Nat} {pv : Value} {qs : List PgV} {a : PlL} {bs : List PlL} {w : World} (h : WrM B b pv (.slice (some ⟨g, 0, none⟩) (bs.length + 1) c) qs (a :: bs) w) :
    WrM B b pv (.slice (some ⟨g, 0, none⟩) bs.length c) qs bs (w.setCell ⟨b, 1, none⟩ (.slice (some ⟨g, 0, none⟩) bs.length c)).drew ∧ FrL B w (w.setCell ⟨b, 1, none⟩ (.slice (some ⟨g, 0, none⟩) bs.length c)).drew := by
  obtain ⟨h1, h2⟩ := h.popB
  have hb := (Below.refl (w.setCell ⟨b, 1, none⟩ (.slice (some ⟨g, 0, none⟩) bs.length c)).heap.size (w.setCell ⟨b, 1, none⟩ (.slice (some ⟨g, 0, none⟩) bs.length c))).drew
  exact ⟨h1.kept hb, h2.trans (FrL.kept hb (Nat.le_trans h1.Bb (Nat.le_of_lt h1.lt)))⟩
theorem popP_drew {B b g c : Nat} {bv : Value} {q : PgV} {rest : List PgV} {bs : List PlL} {w : World} (h : WrM B b (.slice (some ⟨g, 0, none⟩) (rest.length + 1) c) bv (q :: rest) bs w) :
    WrM B b (.slice (some ⟨g, 0, none⟩) rest.length c) bv rest bs (w.setCell ⟨b, 0, none⟩ (.slice (some ⟨g, 0, none⟩) rest.length c)).drew ∧ FrL B w (w.setCell ⟨b, 0, none⟩ (.slice (some ⟨g, 0, none⟩) rest.length c)).drew ∧ PgW B g (rest.length * 2) q.p q.ev q.lv (w.setCell ⟨b, 0, none⟩ (.slice (some ⟨g, 0, none⟩) rest.length c)).drew := by
  obtain ⟨h1, h2⟩ := h.popP
  have hb := (Below.refl (w.setCell ⟨b, 0, none⟩ (.slice (some ⟨g, 0, none⟩) rest.length c)).heap.size (w.setCell ⟨b, 0, none⟩ (.slice (some ⟨g, 0, none⟩) rest.length c))).drew
  exact ⟨h1.kept hb, h2.trans (FrL.kept hb (Nat.le_trans h1.Bb (Nat.le_of_lt h1.lt))), (h.pg.setWr h.blk).kept hb⟩
theorem wraps (n : Nat) (h : n ≤ 1000001) : IntKind.i64.wrap (n : Int) = (n : Int) ∧ wrap64 (n : Int) = (n : Int) ∧ IntKind.i64.wrap ((n : Int) + 1 - 1) = (n : Int) ∧ IntKind.i64.wrap ((n : Int) + 1) = (n : Int) + 1 ∧ IntKind.i64.wrap ((n : Int) + 1 + 1 - 1) = (n : Int) + 1 := by
  have h1 : IntKind.i64.wrap (n : Int) = (n : Int) := IntWalk.i64_in _ (by omega)
  have h2 : IntKind.i64.wrap ((n : Int) + 1) = (n : Int) + 1 := IntWalk.i64_in _ (by clear h1; omega)
  have h3 : wrap64 (n : Int) = (n : Int) := by clear h1 h2; unfold wrap64; omega
  exact ⟨h1, h3, by rw [Int.add_sub_cancel]; exact h1, h2, by rw [Int.add_sub_cancel]; exact h2⟩
set_option maxHeartbeats 4000000 in
theorem end_any (B b : Nat) : EndOK B 28 (.pointer (some ⟨b, 0, none⟩)) (WrInv B b) enW (fun s => s.2.2) 1000000 := by
  intro s w nd K av kv hI hB hA hK hm
  obtain ⟨pv, bv, qs, hw, hmap, hok⟩ := hI
  obtain ⟨ps, bs, gh⟩ := s
  simp only at hmap hw
  cases qs with
  | nil =>
    simp only [List.map_nil] at hmap
    subst hmap
    exact absurd hm (by show ¬ gh + 2000000 ≤ 1000000; omega)
  | cons q rest =>
  cases bs with
  | nil =>
    subst hmap
    exact absurd hm (by show ¬ gh + 2000000 ≤ 1000000; omega)
  | cons a bs =>
  simp only [List.map_cons] at hmap
  subst hmap
  have hgb := enW_le (q.p :: rest.map PgV.p, a :: bs, gh) nd
  have hok2 := OKW.en hok nd hm
  obtain ⟨k1, k2, k3, k4, k5⟩ := ok_page hok
  rw [List.length_map] at k3
  simp only [List.length_cons] at k4
  have hgm : gh ≤ 1000000 := Nat.le_trans hgb hm
  have HBL : Hid (bs.length ≤ 1000000) := hide (by omega)
  obtain ⟨g, cp, rfl, hc1, hc2, hp⟩ := hw.page
  obtain ⟨gb, cb, rfl, hd1, hd2, d0, d1⟩ := hw.plc
  obtain ⟨KA, KC, rfl⟩ := hK.form
  clear hc2 hd2
  obtain ⟨w1, hw1⟩ : ∃ w1, w.alloc (Obj.cells #[.string (str nd.name), av, .string (str nd.text), .slice KA K.len KC] 36) = w1 := ⟨_, rfl⟩
  have hb1 : Below w.heap.size w w1 := by rw [← hw1]; exact below_one w _
  have hx1 : w1.heap[w.heap.size]? = some (Obj.cells #[.string (str nd.name), av, .string (str nd.text), .slice KA K.len KC] 36 (0, 0)) := by rw [← hw1]; exact heap_alloc_new w _
  have hk1 := hw.kept hb1
  obtain ⟨c0, c1, cf⟩ := hk1.cells
  have f1 := cf 1
  have HP2 := hide (popB_drew hk1)
  have HF1 : Hid (FrL B w w1) := hide (FrL.kept hb1 hB)
  have z0 : (w1.setCell ⟨b, 1, none⟩ (.slice (some ⟨gb, 0, none⟩) bs.length cb)).drew.cell? ⟨w.heap.size, 0, none⟩ = some (.string (str nd.name)) := (Lib.cell_of_heap ((HP2.out.2.2 _ _ _ _ hx1 (.inr rfl)).trans hx1) 0).trans rfl
  have hs1 : (bs.length : Int) ≤ (cb : Int) := by omega
  have hs2 : bs.length ≤ cb := by omega
  have hs3 : (0 : Int) ≤ (bs.length : Int) := by omega
  have n2 : ((str nd.name).toList == [98, 108, 111, 99, 107, 113, 117, 111, 116, 101]) = decide (nd.name = quoN) := by rw [str_list]; exact beq_dec _ _
  have HOK2 := hide hok2
  have HOK := hide hok
  have HGM := hide hgm
  have HRS : Hid (rest.length ≤ 1000000) := hide (by omega)
  unfold ndV
  clear hA hK hok hok2 hp hx1 hb1 k1 k2 k3 k4 k5 hgb hc1 hd1 d0 d1 hw hk1 c0 cf
  by_cases hq : nd.name = quoN
  · rw [decide_eq_true hq] at n2
    cases rest with
    | nil =>
      have e : enW ([q.p], a :: bs, gh) nd = badW ([q.p], a :: bs, gh) := by simp only [enW, if_pos hq]
      rw [show ((q.p :: List.map PgV.p [], a :: bs, gh) : WS) = ([q.p], a :: bs, gh) from rfl, e] at hm
      exact absurd hm (by show ¬ gh + 2000000 ≤ 1000000; omega)
    | cons p rest =>
    have hen : enW (q.p :: List.map PgV.p (p :: rest), a :: bs, gh) nd = (quoteP p.p q.p :: rest.map PgV.p, bs, gh + 1) := by simp only [enW, if_pos hq, List.map_cons]
    rw [hen] at HOK2 ⊢
    obtain ⟨r1, r2, r3⟩ := ok_two HOK.out HGM.out
    have HR := hide (And.intro r1 (And.intro r2 r3))
    have HPL : Hid (rest.length ≤ 1000000) := hide (by have := HRS.out; simp only [List.length_cons] at this; omega)
    obtain ⟨gc, cc, ee, hcc, hcm, -⟩ := HP2.out.1.page
    injection ee with e1 e2 e3
    subst e3
    clear hcm
    have hs4 : (rest.length : Int) + 1 ≤ (cp : Int) := by simp only [List.length_cons] at hcc; omega
    have hs5 : rest.length + 1 ≤ cp := by simp only [List.length_cons] at hcc; omega
    have hs6 : (0 : Int) ≤ (rest.length : Int) + 1 := by omega
    clear r1 r2 r3 hq hen hcc e1 e2
    obtain ⟨hw3, hw4, hw5, -, -⟩ := wraps bs.length (by have := HBL.out; omega)
    obtain ⟨-, -, -, hv3, hv4⟩ := wraps rest.length (by have := HPL.out; omega)
    go_enter Try.func28, Try.ntmps28
    go_wp2_with fail
    go_still_tail 14, (by kernel_rfl)
    change wpList _ _ _ _ _ w1.drew
    go_wp2_with fail
    generalize (w1.setCell ⟨b, 1, none⟩ (.slice (some ⟨gb, 0, none⟩) bs.length cb)).drew = v2 at HP2 z0 ⊢
    have HIN := hide (innerB_any HP2.out.1 (by have := HRS.out; omega) (Below.refl v2.heap.size v2))
    go_wp2_with fail
    refine HIN.out.mono ?_
    rintro e v3 ⟨rfl, hb3⟩
    have hw3' := HP2.out.1.kept hb3
    have HF3 : Hid (FrL B w v3) := hide (HF1.out.trans (HP2.out.2.trans (FrL.kept hb3 (Nat.le_trans HP2.out.1.Bb (Nat.le_of_lt HP2.out.1.lt)))))
    obtain ⟨y0, -, yf⟩ := hw3'.cells
    have y1 := yf 0
    have HP4 := hide (popP_drew hw3')
    have HAP := hide (List.pairwise_cons.1 hw3'.apart)
    simp only [List.length_cons] at y0 HP4
    clear hb3 yf hw3' HIN
    go_wp2_with fail
    go_still_tail 14, (by kernel_rfl)
    change wpList _ _ _ _ _ v3.drew
    go_wp2_with fail
    generalize (v3.setCell ⟨b, 0, none⟩ (.slice (some ⟨g, 0, none⟩) (rest.length + 1) cp)).drew = v4 at HP4 ⊢
    have HIN2 := hide (innerB_any HP4.out.1 (by have := HPL.out; clear hw3 hw4 hw5 hv3 hv4; omega) (Below.refl v4.heap.size v4))
    clear y0 y1 z0 hw3 hw4 hw5 hv3 hv4
    refine HIN2.out.mono ?_
    rintro e v5 ⟨rfl, hb5⟩
    have HW5 := hide (HP4.out.1.kept hb5)
    have HQ5 := hide (HP4.out.2.2.kept hb5)
    have HF5 : Hid (FrL B w v5) := hide (HF3.out.trans (HP4.out.2.1.trans (FrL.kept hb5 (Nat.le_trans HP4.out.1.Bb (Nat.le_of_lt HP4.out.1.lt)))))
    have HQT := hide (quote_any B g (rest.length * 2) ((rest.length + 1) * 2) p.p q.p p.ev p.lv q.ev q.lv v5 HW5.out.pg HQ5.out (Apart.symm (HAP.out.1 p (List.mem_cons_self ..))) (by omega) (by omega) (by omega) HR.out.2.1 HR.out.1 HR.out.2.2)
    clear hb5
    go_wp2_with fail
    refine HQT.out.mono ?_
    rintro e v6 ⟨rfl, e6, l6, hp6, hf6⟩
    have HT6 := hide (HW5.out.turned HW5.out.pg hp6 hf6)
    have HF6 := hide (HF5.out.trans (hf6.frl HW5.out.pg))
    clear hp6 hf6
    go_wp2_with fail
    go_end0
    exact ⟨rfl, ⟨_, _, _, HT6.out, rfl, HOK2.out⟩, HF6.out⟩
  · rw [decide_eq_false hq] at n2
    have hen : enW (q.p :: List.map PgV.p rest, a :: bs, gh) nd = (q.p :: rest.map PgV.p, bs, gh + 1) := by simp only [enW, if_neg hq]
    rw [hen] at HOK2 ⊢
    clear hq hen
    obtain ⟨hw3, hw4, hw5, -, -⟩ := wraps bs.length (by have := HBL.out; omega)
    go_enter Try.func28, Try.ntmps28
    go_wp2_with fail
    go_still_tail 14, (by kernel_rfl)
    change wpList _ _ _ _ _ w1.drew
    go_wp2_with fail
    go_end0
    exact ⟨rfl, ⟨_, _, _, HP2.out.1, rfl, HOK2.out⟩, HF1.out.trans HP2.out.2⟩
end Go.Proofs.Ytdeaofnhdbhknaa
