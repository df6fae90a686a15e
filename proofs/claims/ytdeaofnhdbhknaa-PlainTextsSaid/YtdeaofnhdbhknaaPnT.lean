/- WALK of the writer's begin. Written by wip/tools/pnt.py. No statement is proved here. Own work of the verifier. -/
import Derived.Test.YtdeaofnhdbhknaaPnS
namespace Go.Proofs.Ytdeaofnhdbhknaa
open Go.RowKit
set_option linter.unusedVariables false
set_option linter.unusedSimpArgs false
set_option maxRecDepth 100000
theorem ok_page {p : PgL} {ps : List PgL} {bs : List PlL} {g : Nat} (h : OKW (p :: ps, bs, g)) : p.1.length ≤ g ∧ p.2.length ≤ g * 2000010 ∧ ps.length ≤ g ∧ bs.length ≤ g + 1 ∧ PgOK p := by
  obtain ⟨h1, h2, h3, h4, h5⟩ := h
  simp only [lnsW, bytW, List.map_cons, List.sum_cons, List.length_cons] at h2 h3 h4 h5
  have hr : p.2.length ≤ (render p).length := by unfold render; rw [List.length_append]; omega
  exact ⟨by omega, by omega, by omega, h5, h1 p (List.mem_cons_self ..)⟩
theorem beq_dec (a b : List UInt8) : (a == b) = decide (a = b) := by
  by_cases h : a = b
  · rw [decide_eq_true h, h]; exact beq_self_eq_true _
  · rw [decide_eq_false h]; exact beq_eq_false_iff_ne.2 h
/-- a write's contract from the writer's side -/
theorem innerB_any {B b : Nat} {bv : Value} {q : PgV} {rest : List PgV} {bs : List PlL} {w : World} {g c : Nat} (h : WrM B b (.slice (some ⟨g, 0, none⟩) (rest.length + 1) c) bv (q :: rest) bs w) (hn : rest.length ≤ 1000000000) {w1 : World} (hb : Below w.heap.size w w1) :
    Calls Try.prog 29 #[.pointer (some ⟨b, 0, none⟩)] w1 fun e w' => e = .returned (.pointer (some ⟨g, rest.length * 2, none⟩)) ∧ Below w1.heap.size w1 w' := by
  refine (inner_any B b _ bv q rest bs w1 (h.kept hb) g c rfl hn).mono ?_
  rintro e w' ⟨rfl, m, rfl⟩
  exact ⟨rfl, rfl, rfl, rfl, Nat.le_refl _, fun _ _ => rfl⟩
theorem WrM.pg {B b g c : Nat} {bv : Value} {q : PgV} {rest : List PgV} {bs : List PlL} {w : World} (h : WrM B b (.slice (some ⟨g, 0, none⟩) (rest.length + 1) c) bv (q :: rest) bs w) : PgW B g (rest.length * 2) q.p q.ev q.lv w := by
  obtain ⟨g', c', e, _, _, hp⟩ := h.page
  injection e with e1 _ _
  injection e1 with e1
  injection e1 with e1
  subst e1
  exact hp
theorem WrM.bform {B b : Nat} {pv bv : Value} {qs : List PgV} {bs : List PlL} {w : World} (h : WrM B b pv bv qs bs w) : ∃ A c, bv = .slice A bs.length c := by
  rcases h.pls.2 with ⟨rfl, h0⟩ | ⟨g, cap, cur, rfl, _⟩
  · rw [h0]; exact ⟨_, _, rfl⟩
  · exact ⟨_, _, rfl⟩
set_option maxHeartbeats 4000000 in
theorem beg_any (B b : Nat) : BegOK B 27 (.pointer (some ⟨b, 0, none⟩)) (WrInv B b) bgW dvW (fun s => s.2.2) 1000000 (fun _ _ => True) := by
  intro s w nd K av A m c hI hB _ hA hK hm
  obtain ⟨pv, bv, qs, hw, hmap, hok⟩ := hI
  obtain ⟨ps, bs, gh⟩ := s
  simp only at hmap
  cases qs with
  | nil =>
    simp only [List.map_nil] at hmap
    subst hmap
    exact absurd hm (by show ¬ gh + 2000000 ≤ 1000000; omega)
  | cons q rest =>
  cases bs with
  | nil =>
    subst hmap
    exact absurd hm (by show ¬ gh + 2000000 ≤ 1000000; omega)
  | cons a bs =>
  simp only [List.map_cons] at hmap
  subst hmap
  have hgb := bgW_le (q.p :: rest.map PgV.p, a :: bs, gh) nd K
  have hok2 := OKW.bg hok nd K hm
  obtain ⟨k1, k2, k3, k4, k5⟩ := ok_page hok
  rw [List.length_map] at k3
  have hgm : gh ≤ 1000000 := Nat.le_trans hgb hm
  obtain ⟨g, cp, rfl, hc1, hc2, hp⟩ := hw.page
  simp only at hw
  obtain ⟨w1, hw1⟩ : ∃ w1, w.alloc (Obj.cells #[.string (str nd.name), av, .string (str nd.text), .slice A m c] 36) = w1 := ⟨_, rfl⟩
  have hb1 : Below w.heap.size w w1 := by rw [← hw1]; exact below_one w _
  have hx1 : w1.heap[w.heap.size]? = some (Obj.cells #[.string (str nd.name), av, .string (str nd.text), .slice A m c] 36 (0, 0)) := by rw [← hw1]; exact heap_alloc_new w _
  have b0 : w1.cell? ⟨w.heap.size, 0, none⟩ = some (.string (str nd.name)) := (Lib.cell_of_heap hx1 0).trans rfl
  have b2 : w1.cell? ⟨w.heap.size, 2, none⟩ = some (.string (str nd.text)) := (Lib.cell_of_heap hx1 2).trans rfl
  have b3 : w1.cell? ⟨w.heap.size, 3, none⟩ = some (.slice A m c) := (Lib.cell_of_heap hx1 3).trans rfl
  have HW1 := hide (hw.kept hb1)
  have HF1 : Hid (FrL B w w1) := hide (FrL.kept hb1 hB)
  have HX1 := hide hx1
  have HRL : Hid (rest.length ≤ 1000000000) := hide (by omega)
  have HRS : Hid (rest.length ≤ 1000000) := hide (by omega)
  have HBL : Hid ((a :: bs).length + 1 ≤ 1000000001) := hide (by omega)
  have HKK := hide (And.intro k1 (And.intro k2 hgm))
  have HOK2 := hide hok2
  unfold ndV
  have e0 : ∀ l : List UInt8, (str nd.name).toList.isEmpty = l.isEmpty → True := fun _ _ => trivial
  have n0 : (str nd.name).toList.isEmpty = decide (nd.name = []) := by rw [str_list]; cases nd.name <;> rfl
  have n1 : ((str nd.name).toList == [98, 114]) = decide (nd.name = brN) := by rw [str_list]; exact beq_dec _ _
  have n2 : ((str nd.name).toList == [98, 108, 111, 99, 107, 113, 117, 111, 116, 101]) = decide (nd.name = quoN) := by rw [str_list]; exact beq_dec _ _
  clear e0 hA hK hok hp hx1 hb1 k1 k2 k3 k4 k5 hgb hc1 hc2 hw
  by_cases hn : nd.name = []
  · rw [decide_eq_true hn] at n0
    have hbg : bgW (q.p :: rest.map PgV.p, a :: bs, gh) nd K = (putS q.p nd.text :: rest.map PgV.p, place (putS q.p nd.text) :: a :: bs, gh + nd.text.length + 2) := by simp only [bgW, if_pos hn]
    have hdv : dvW nd = false := by unfold dvW; rw [hn]; rfl
    rw [hbg] at HOK2 hm ⊢
    rw [hdv]
    simp only at hm
    have HWR : Hid (∀ w2, Below w1.heap.size w1 w2 → Calls Try.prog 39 #[.pointer (some ⟨g, rest.length * 2, none⟩), .string (str nd.text)] w2 fun e w' => e = .returned (.tuple #[]) ∧ ∃ ev' lv', PgW B g (rest.length * 2) (putS q.p nd.text) ev' lv' w' ∧ PgF g (rest.length * 2) q.ev q.lv ev' lv' w2 w') := hide (fun w2 hb => by
      have := write_any B g (rest.length * 2) q.p q.ev q.lv (str nd.text) w2 (HW1.out.pg.kept hb) (by rw [str_size]; omega) (by rw [str_size]; have := HKK.out; exact ⟨by omega, by omega⟩)
      rw [str_toList] at this; exact this)
    have HIN0 : Hid (∀ w2, Below w1.heap.size w1 w2 → Calls Try.prog 29 #[.pointer (some ⟨b, 0, none⟩)] w2 fun e w' => e = .returned (.pointer (some ⟨g, rest.length * 2, none⟩)) ∧ Below w2.heap.size w2 w') := hide (fun w2 hb => innerB_any HW1.out HRL.out hb)
    have HW1D : Hid (Below w1.heap.size w1 w1.drew) := hide (Below.refl _ _).drew
    obtain ⟨X, hX⟩ : ∃ X, X = str nd.text := ⟨_, rfl⟩
    rw [← hX] at b2 HWR HX1 hw1 ⊢
    have b2d : w1.drew.cell? ⟨w.heap.size, 2, none⟩ = some (.string X) := b2
    have HB2 := hide b2
    clear hn hbg hX n1 n2 b3
    go_enter Try.func27, Try.ntmps27
    go_wp2_with fail
    go_region_law (first
      | (go_simp; (with_reducible refine (HIN0.out _ HW1D.out).mono ?_); rintro e w2 ⟨rfl, hb2⟩; have HB2A := hide (HW1D.out.trans (hb2.mono HW1D.out.size)); have z2 : w2.cell? ⟨w.heap.size, 2, none⟩ = some (.string X) := (HB2A.out.cell (World.block_lt_of_cell? _ _ HB2.out)).trans HB2.out; clear hb2)
      | (go_simp; (with_reducible refine (HWR.out _ HB2A.out).mono ?_); rintro e w3 ⟨rfl, e3, l3, hp3, hf3⟩; have HP3 := hide hp3; have HG3 := hide hf3; clear hp3 hf3))
    all_goals
      have HWM := hide ((HW1.out.kept HB2A.out).turned (HW1.out.pg.kept HB2A.out) HP3.out HG3.out)
      have HFR : Hid (FrL B w w3) := hide (HF1.out.trans ((FrL.kept HB2A.out (Nat.le_trans HW1.out.Bb (Nat.le_of_lt HW1.out.lt))).trans (HG3.out.frl (HW1.out.pg.kept HB2A.out))))
      obtain ⟨Ab, cb, hbv⟩ := HWM.out.bform
      subst hbv
      have HIN : Hid (∀ wz, Below w3.heap.size w3 wz → Calls Try.prog 29 #[.pointer (some ⟨b, 0, none⟩)] wz fun e w' => e = .returned (.pointer (some ⟨g, rest.length * 2, none⟩)) ∧ Below wz.heap.size wz w') := hide (fun wz hb => innerB_any HWM.out HRL.out hb)
      have HPL : Hid (∀ wz, Below w3.heap.size w3 wz → Calls Try.prog 41 #[.pointer (some ⟨g, rest.length * 2, none⟩)] wz fun e w' => e = .returned (.agg #[.int .i64 ((place (⟨putS q.p nd.text, e3, l3⟩ : PgV).p).1 : Int), .int .i64 ((place (⟨putS q.p nd.text, e3, l3⟩ : PgV).p).2 : Int)]) ∧ Below wz.heap.size wz w') := hide (fun wz hb => place_any B g _ (⟨putS q.p nd.text, e3, l3⟩ : PgV).p (⟨putS q.p nd.text, e3, l3⟩ : PgV).ev (⟨putS q.p nd.text, e3, l3⟩ : PgV).lv _ (HWM.out.pg.kept hb))
      obtain ⟨PLC, hPLC⟩ : ∃ P, P = place (⟨putS q.p nd.text, e3, l3⟩ : PgV).p := ⟨_, rfl⟩
      rw [← hPLC] at HPL
      have HPC := hide hPLC
      obtain ⟨-, c1, -⟩ := HWM.out.cells
      have HC1 := hide c1
      have c1d : w3.drew.cell? ⟨b, 1, none⟩ = some (.slice Ab (a :: bs).length cb) := c1
      have HWD : Hid (Below w3.heap.size w3 w3.drew) := hide (Below.refl _ _).drew
      clear hPLC c1
      go_wp2_with fail
      go_region_law (first
        | (refine step_pls rfl _ _ rfl B (.slice Ab (a :: bs).length cb) (a :: bs).reverse (a :: bs).length List.length_reverse rfl PLC ((HWM.out.kept (HB5.out.trans ((below_one w5 _).mono HB5.out.size))).pls) (Nat.le_trans (Nat.le_trans HWM.out.Bb (Nat.le_of_lt HWM.out.lt)) (Nat.le_trans HB5.out.size (below_one w5 _).size)) _ rfl (two_ln _ _ _ _).1 (two_ln _ _ _ _).2 HBL.out ?_
           intro g6 c6 w6 ho6 hg6
           have hW : Below w3.heap.size w3 (w5.alloc (.cells #[.int .i64 (PLC.1 : Int), .int .i64 (PLC.2 : Int)] 76)) := HB5.out.trans ((below_one w5 _).mono HB5.out.size)
           obtain ⟨x6, y6⟩ : w6.cell? ⟨b, 1, none⟩ = some (.slice Ab (a :: bs).length cb) ∧ w6.frozen? ⟨b, 1, none⟩ = false := by
             have hk := HWM.out.kept hW
             have hb := (hg6.block b hk.lt (fun e => row_ne_page hk.pls hk.blk (by decide) e.symm)).trans hk.blk
             exact ⟨(Lib.cell_of_heap hb 1).trans rfl, Lib.frozen_of_heap hb 1⟩
           have HO6 := hide (HWM.out.setBv ho6 (grown_after hW hg6))
           clear ho6 hg6 hW)
        | (go_simp; (with_reducible refine (HIN.out _ HWD.out).mono ?_); rintro e w4 ⟨rfl, hb4⟩; have HB4 := hide (HWD.out.trans (hb4.mono HWD.out.size)); have z4 : w4.cell? ⟨b, 1, none⟩ = some (.slice Ab (a :: bs).length cb) := (HB4.out.cell (World.block_lt_of_cell? _ _ HC1.out)).trans HC1.out; clear hb4)
        | (go_simp; (with_reducible refine (HPL.out _ HB4.out).mono ?_); rintro e w5 ⟨rfl, hb5⟩; have HB5 := hide (HB4.out.trans (hb5.mono HB4.out.size)); have z5 : w5.cell? ⟨b, 1, none⟩ = some (.slice Ab (a :: bs).length cb) := (HB5.out.cell (World.block_lt_of_cell? _ _ HC1.out)).trans HC1.out; have z5a : ∀ ob, (w5.alloc ob).cell? ⟨b, 1, none⟩ = some (.slice Ab (a :: bs).length cb) := fun ob => ((below_one w5 ob).cell (World.block_lt_of_cell? _ _ z5)).trans z5; clear hb5))
      all_goals
        go_wp2_with fail
        go_ret
        exact ⟨rfl, ⟨_, _, _, by have hh := HO6.out.1; rw [HPC.out] at hh; exact hh, rfl, HOK2.out⟩, HFR.out.trans HO6.out.2⟩
  · rw [decide_eq_false hn] at n0
    by_cases hbr : nd.name = brN
    · rw [decide_eq_true hbr] at n1
      have hbg : bgW (q.p :: rest.map PgV.p, a :: bs, gh) nd K = (putS q.p [10] :: rest.map PgV.p, place (putS q.p [10]) :: a :: bs, gh + 2) := by simp only [bgW, if_neg hn, if_pos hbr]
      have hdv : dvW nd = false := by unfold dvW; rw [decide_eq_false (not_not_intro hbr)]; exact Bool.and_false _
      rw [hbg] at HOK2 hm ⊢
      rw [hdv]
      have HIN0 : Hid (∀ w2, Below w1.heap.size w1 w2 → Calls Try.prog 29 #[.pointer (some ⟨b, 0, none⟩)] w2 fun e w' => e = .returned (.pointer (some ⟨g, rest.length * 2, none⟩)) ∧ Below w2.heap.size w2 w') := hide (fun w2 hb => innerB_any HW1.out HRL.out hb)
      have HWR : Hid (∀ w2, Below w1.heap.size w1 w2 → Calls Try.prog 39 #[.pointer (some ⟨g, rest.length * 2, none⟩), .string ⟨#[10]⟩] w2 fun e w' => e = .returned (.tuple #[]) ∧ ∃ ev' lv', PgW B g (rest.length * 2) (putS q.p [10]) ev' lv' w' ∧ PgF g (rest.length * 2) q.ev q.lv ev' lv' w2 w') := hide (fun w2 hb => write_any B g (rest.length * 2) q.p q.ev q.lv ⟨#[10]⟩ w2 (HW1.out.pg.kept hb) (by decide) (by have := HKK.out; exact ⟨by show q.p.1.length + 1 ≤ _; omega, by show q.p.2.length + 1 ≤ _; omega⟩))
      clear hn hbr hbg n2 b2 b3
      go_enter Try.func27, Try.ntmps27
      go_wp2_with fail
      refine (HIN0.out w1 (Below.refl _ _)).mono ?_
      rintro e w2 ⟨rfl, hb2⟩
      have HB2A := hide hb2
      clear hb2
      go_wp2_with fail
      refine (HWR.out w2 HB2A.out).mono ?_
      rintro e w3 ⟨rfl, e3, l3, hp3, hf3⟩
      have HP3 := hide hp3
      have HG3 := hide hf3
      clear hp3 hf3
      have HWM := hide ((HW1.out.kept HB2A.out).turned (HW1.out.pg.kept HB2A.out) HP3.out HG3.out)
      have HFR : Hid (FrL B w w3) := hide (HF1.out.trans ((FrL.kept HB2A.out (Nat.le_trans HW1.out.Bb (Nat.le_of_lt HW1.out.lt))).trans (HG3.out.frl (HW1.out.pg.kept HB2A.out))))
      obtain ⟨Ab, cb, hbv⟩ := HWM.out.bform
      subst hbv
      have HIN : Hid (∀ wz, Below w3.heap.size w3 wz → Calls Try.prog 29 #[.pointer (some ⟨b, 0, none⟩)] wz fun e w' => e = .returned (.pointer (some ⟨g, rest.length * 2, none⟩)) ∧ Below wz.heap.size wz w') := hide (fun wz hb => innerB_any HWM.out HRL.out hb)
      have HPL : Hid (∀ wz, Below w3.heap.size w3 wz → Calls Try.prog 41 #[.pointer (some ⟨g, rest.length * 2, none⟩)] wz fun e w' => e = .returned (.agg #[.int .i64 ((place (⟨putS q.p [10], e3, l3⟩ : PgV).p).1 : Int), .int .i64 ((place (⟨putS q.p [10], e3, l3⟩ : PgV).p).2 : Int)]) ∧ Below wz.heap.size wz w') := hide (fun wz hb => place_any B g _ (⟨putS q.p [10], e3, l3⟩ : PgV).p (⟨putS q.p [10], e3, l3⟩ : PgV).ev (⟨putS q.p [10], e3, l3⟩ : PgV).lv _ (HWM.out.pg.kept hb))
      obtain ⟨PLC, hPLC⟩ : ∃ P, P = place (⟨putS q.p [10], e3, l3⟩ : PgV).p := ⟨_, rfl⟩
      rw [← hPLC] at HPL
      have HPC := hide hPLC
      obtain ⟨-, c1, -⟩ := HWM.out.cells
      have HC1 := hide c1
      have c1d : w3.drew.cell? ⟨b, 1, none⟩ = some (.slice Ab (a :: bs).length cb) := c1
      have HWD : Hid (Below w3.heap.size w3 w3.drew) := hide (Below.refl _ _).drew
      clear hPLC c1
      go_wp2_with fail
      go_region_law (first
        | (refine step_pls rfl _ _ rfl B (.slice Ab (a :: bs).length cb) (a :: bs).reverse (a :: bs).length List.length_reverse rfl PLC ((HWM.out.kept (HB5.out.trans ((below_one w5 _).mono HB5.out.size))).pls) (Nat.le_trans (Nat.le_trans HWM.out.Bb (Nat.le_of_lt HWM.out.lt)) (Nat.le_trans HB5.out.size (below_one w5 _).size)) _ rfl (two_ln _ _ _ _).1 (two_ln _ _ _ _).2 HBL.out ?_
           intro g6 c6 w6 ho6 hg6
           have hW : Below w3.heap.size w3 (w5.alloc (.cells #[.int .i64 (PLC.1 : Int), .int .i64 (PLC.2 : Int)] 76)) := HB5.out.trans ((below_one w5 _).mono HB5.out.size)
           obtain ⟨x6, y6⟩ : w6.cell? ⟨b, 1, none⟩ = some (.slice Ab (a :: bs).length cb) ∧ w6.frozen? ⟨b, 1, none⟩ = false := by
             have hk := HWM.out.kept hW
             have hb := (hg6.block b hk.lt (fun e => row_ne_page hk.pls hk.blk (by decide) e.symm)).trans hk.blk
             exact ⟨(Lib.cell_of_heap hb 1).trans rfl, Lib.frozen_of_heap hb 1⟩
           have HO6 := hide (HWM.out.setBv ho6 (grown_after hW hg6))
           clear ho6 hg6 hW)
        | (go_simp; (with_reducible refine (HIN.out _ HWD.out).mono ?_); rintro e w4 ⟨rfl, hb4⟩; have HB4 := hide (HWD.out.trans (hb4.mono HWD.out.size)); have z4 : w4.cell? ⟨b, 1, none⟩ = some (.slice Ab (a :: bs).length cb) := (HB4.out.cell (World.block_lt_of_cell? _ _ HC1.out)).trans HC1.out; clear hb4)
        | (go_simp; (with_reducible refine (HPL.out _ HB4.out).mono ?_); rintro e w5 ⟨rfl, hb5⟩; have HB5 := hide (HB4.out.trans (hb5.mono HB4.out.size)); have z5 : w5.cell? ⟨b, 1, none⟩ = some (.slice Ab (a :: bs).length cb) := (HB5.out.cell (World.block_lt_of_cell? _ _ HC1.out)).trans HC1.out; have z5a : ∀ ob, (w5.alloc ob).cell? ⟨b, 1, none⟩ = some (.slice Ab (a :: bs).length cb) := fun ob => ((below_one w5 ob).cell (World.block_lt_of_cell? _ _ z5)).trans z5; clear hb5))
      all_goals
        go_wp2_with fail
        go_ret
        exact ⟨rfl, ⟨_, _, _, by have hh := HO6.out.1; rw [HPC.out] at hh; exact hh, rfl, HOK2.out⟩, HFR.out.trans HO6.out.2⟩
    · rw [decide_eq_false hbr] at n1
      have hdv : dvW nd = true := by unfold dvW; rw [decide_eq_true hn, decide_eq_true hbr]; rfl
      rw [hdv, if_pos rfl]
      by_cases hq : nd.name = quoN
      · rw [decide_eq_true hq] at n2
        have hbg : bgW (q.p :: rest.map PgV.p, a :: bs, gh) nd K = (([], []) :: endLn q.p a :: rest.map PgV.p, (0, 0) :: a :: bs, gh + 2) := by simp only [bgW, if_neg hn, if_neg hbr, if_pos hq]
        rw [hbg] at HOK2 hm ⊢
        have HEL := hide (endLine_any B b _ bv q rest a bs w1 HW1.out HRL.out (by have := HBL.out; simp only [List.length_cons] at this; omega) (by have := HKK.out; exact ⟨by omega, by omega⟩))
        have HX2 : Hid (w1.heap[w.heap.size]? = some (Obj.cells #[.string (str nd.name), av, .string (str nd.text), .slice A m c] 36 (0, 0))) := HX1
        clear hn hbr hq hbg b2 b3
        go_enter Try.func27, Try.ntmps27
        go_wp2_with fail
        refine HEL.out.mono ?_
        rintro e v2 ⟨rfl, e2, l2, hw2, hf2⟩
        obtain ⟨x0, -, x2⟩ := hw2.cells
        have x2' := x2 0
        have HW2 := hide hw2
        have HF2 := hide (HF1.out.trans hf2)
        have HXX : Hid (v2.heap[w.heap.size]? = some (Obj.cells #[.string (str nd.name), av, .string (str nd.text), .slice A m c] 36 (0, 0))) := hide ((hf2.2 _ _ _ _ HX2.out (.inr rfl)).trans HX2.out)
        have HRL1 : Hid (rest.length + 1 + 1 ≤ 1000000001) := hide (by have := HRS.out; omega)
        clear hw2 hf2 x2
        go_wp2_with (
          refine wpList_pgs rfl _ _ rfl B (.slice (some ⟨g, 0, none⟩) (rest.length + 1) cp) (⟨endLn q.p a, e2, l2⟩ :: rest).reverse (rest.length + 1) (by simp) rfl (HW2.out.kept (below_one v2 _)).pgs (Nat.le_trans (Nat.le_trans HW2.out.Bb (Nat.le_of_lt HW2.out.lt)) (below_one v2 _).size) _ rfl (two_ln _ _ _ _).1 (two_ln _ _ _ _).2 HRL1.out ?_
          intro g3 c3 v3 ho3 hg3
          have hk := HW2.out.kept (below_one v2 (.cells #[.slice none 0 0, .slice none 0 0] 74))
          obtain ⟨y0, y1⟩ : v3.cell? ⟨b, 0, none⟩ = some (.slice (some ⟨g, 0, none⟩) (rest.length + 1) cp) ∧ v3.frozen? ⟨b, 0, none⟩ = false := by
            have hb := (hg3.block b hk.lt (fun e => row_ne_page hk.pgs hk.blk (by decide) e.symm)).trans hk.blk
            exact ⟨(Lib.cell_of_heap hb 0).trans rfl, Lib.frozen_of_heap hb 0⟩
          have HO3 := hide (HW2.out.setPv ho3 (grown_after (below_one v2 (.cells #[.slice none 0 0, .slice none 0 0] 74)) hg3))
          have z3 : (v3.setCell ⟨b, 0, none⟩ (.slice (some ⟨g3, 0, none⟩) (rest.length + 1 + 1) c3)).cell? ⟨w.heap.size, 3, none⟩ = some (.slice A m c) := (Lib.cell_of_heap ((HO3.out.2.2 _ _ _ _ HXX.out (.inr rfl)).trans HXX.out) 3).trans rfl
          clear ho3 hg3 hk)
        generalize (v3.setCell ⟨b, 0, none⟩ (.slice (some ⟨g3, 0, none⟩) (rest.length + 1 + 1) c3)) = v4 at HO3 z3 ⊢
        clear y0 y1 x0 x2'
        have HWM := hide HO3.out.1
        have HFR : Hid (FrL B w v4) := hide (HF2.out.trans HO3.out.2)
        obtain ⟨R2, hR2⟩ : ∃ R, R = (⟨endLn q.p a, e2, l2⟩ :: rest : List PgV) := ⟨_, rfl⟩
        have hRl : R2.length = rest.length + 1 := by rw [hR2]; rfl
        have HRM : Hid (R2.map PgV.p = endLn q.p a :: rest.map PgV.p) := hide (by rw [hR2]; rfl)
        rw [← hR2] at HWM
        rw [← hRl] at HWM ⊢
        replace HRL : Hid (R2.length ≤ 1000000000) := hide (by have := HKK.out; rw [hRl]; have := HRL1.out; omega)
        clear hR2 hRl HO3
        obtain ⟨Ab, cb, hbv⟩ := HWM.out.bform
        subst hbv
        have HIN : Hid (∀ wz, Below v4.heap.size v4 wz → Calls Try.prog 29 #[.pointer (some ⟨b, 0, none⟩)] wz fun e w' => e = .returned (.pointer (some ⟨g3, R2.length * 2, none⟩)) ∧ Below wz.heap.size wz w') := hide (fun wz hb => innerB_any HWM.out HRL.out hb)
        have HPL : Hid (∀ wz, Below v4.heap.size v4 wz → Calls Try.prog 41 #[.pointer (some ⟨g3, R2.length * 2, none⟩)] wz fun e w' => e = .returned (.agg #[.int .i64 ((place (⟨([], []), .slice none 0 0, .slice none 0 0⟩ : PgV).p).1 : Int), .int .i64 ((place (⟨([], []), .slice none 0 0, .slice none 0 0⟩ : PgV).p).2 : Int)]) ∧ Below wz.heap.size wz w') := hide (fun wz hb => place_any B g3 _ (⟨([], []), .slice none 0 0, .slice none 0 0⟩ : PgV).p (⟨([], []), .slice none 0 0, .slice none 0 0⟩ : PgV).ev (⟨([], []), .slice none 0 0, .slice none 0 0⟩ : PgV).lv _ (HWM.out.pg.kept hb))
        obtain ⟨PLC, hPLC⟩ : ∃ P, P = place (⟨([], []), .slice none 0 0, .slice none 0 0⟩ : PgV).p := ⟨_, rfl⟩
        rw [← hPLC] at HPL
        have HPC := hide hPLC
        obtain ⟨-, c1, -⟩ := HWM.out.cells
        have HC1 := hide c1
        have c1d : v4.drew.cell? ⟨b, 1, none⟩ = some (.slice Ab (a :: bs).length cb) := c1
        have HWD : Hid (Below v4.heap.size v4 v4.drew) := hide (Below.refl _ _).drew
        clear hPLC c1
        go_wp2_with fail
        go_region_law (first
          | (refine step_pls rfl _ _ rfl B (.slice Ab (a :: bs).length cb) (a :: bs).reverse (a :: bs).length List.length_reverse rfl PLC ((HWM.out.kept (HB5.out.trans ((below_one w5 _).mono HB5.out.size))).pls) (Nat.le_trans (Nat.le_trans HWM.out.Bb (Nat.le_of_lt HWM.out.lt)) (Nat.le_trans HB5.out.size (below_one w5 _).size)) _ rfl (two_ln _ _ _ _).1 (two_ln _ _ _ _).2 HBL.out ?_
             intro g6 c6 w6 ho6 hg6
             have hW : Below v4.heap.size v4 (w5.alloc (.cells #[.int .i64 (PLC.1 : Int), .int .i64 (PLC.2 : Int)] 76)) := HB5.out.trans ((below_one w5 _).mono HB5.out.size)
             obtain ⟨x6, y6⟩ : w6.cell? ⟨b, 1, none⟩ = some (.slice Ab (a :: bs).length cb) ∧ w6.frozen? ⟨b, 1, none⟩ = false := by
               have hk := HWM.out.kept hW
               have hb := (hg6.block b hk.lt (fun e => row_ne_page hk.pls hk.blk (by decide) e.symm)).trans hk.blk
               exact ⟨(Lib.cell_of_heap hb 1).trans rfl, Lib.frozen_of_heap hb 1⟩
             have HO6 := hide (HWM.out.setBv ho6 (grown_after hW hg6))
             clear ho6 hg6 hW)
          | (go_simp; (with_reducible refine (HIN.out _ HWD.out).mono ?_); rintro e w4 ⟨rfl, hb4⟩; have HB4 := hide (HWD.out.trans (hb4.mono HWD.out.size)); have z4 : w4.cell? ⟨b, 1, none⟩ = some (.slice Ab (a :: bs).length cb) := (HB4.out.cell (World.block_lt_of_cell? _ _ HC1.out)).trans HC1.out; clear hb4)
          | (go_simp; (with_reducible refine (HPL.out _ HB4.out).mono ?_); rintro e w5 ⟨rfl, hb5⟩; have HB5 := hide (HB4.out.trans (hb5.mono HB4.out.size)); have z5 : w5.cell? ⟨b, 1, none⟩ = some (.slice Ab (a :: bs).length cb) := (HB5.out.cell (World.block_lt_of_cell? _ _ HC1.out)).trans HC1.out; have z5a : ∀ ob, (w5.alloc ob).cell? ⟨b, 1, none⟩ = some (.slice Ab (a :: bs).length cb) := fun ob => ((below_one w5 ob).cell (World.block_lt_of_cell? _ _ z5)).trans z5; clear hb5))
        all_goals
          go_wp2_with fail
          go_ret
          exact ⟨rfl, ⟨_, _, _, by have hh := HO6.out.1; rw [HPC.out] at hh; exact hh, by rw [List.map_cons, HRM.out], HOK2.out⟩, HFR.out.trans HO6.out.2⟩
      · rw [decide_eq_false hq] at n2
        have hbg : bgW (q.p :: rest.map PgV.p, a :: bs, gh) nd K = (q.p :: rest.map PgV.p, place q.p :: a :: bs, gh + 2) := by simp only [bgW, if_neg hn, if_neg hbr, if_neg hq]
        rw [hbg] at HOK2 hm ⊢
        have HWM := HW1
        have HFR := HF1
        clear hn hbr hq hbg b2
        go_enter Try.func27, Try.ntmps27
        obtain ⟨Ab, cb, hbv⟩ := HWM.out.bform
        subst hbv
        have HIN : Hid (∀ wz, Below w1.heap.size w1 wz → Calls Try.prog 29 #[.pointer (some ⟨b, 0, none⟩)] wz fun e w' => e = .returned (.pointer (some ⟨g, rest.length * 2, none⟩)) ∧ Below wz.heap.size wz w') := hide (fun wz hb => innerB_any HWM.out HRL.out hb)
        have HPL : Hid (∀ wz, Below w1.heap.size w1 wz → Calls Try.prog 41 #[.pointer (some ⟨g, rest.length * 2, none⟩)] wz fun e w' => e = .returned (.agg #[.int .i64 ((place q.p).1 : Int), .int .i64 ((place q.p).2 : Int)]) ∧ Below wz.heap.size wz w') := hide (fun wz hb => place_any B g _ q.p q.ev q.lv _ (HWM.out.pg.kept hb))
        obtain ⟨PLC, hPLC⟩ : ∃ P, P = place q.p := ⟨_, rfl⟩
        rw [← hPLC] at HPL
        have HPC := hide hPLC
        obtain ⟨-, c1, -⟩ := HWM.out.cells
        have HC1 := hide c1
        have c1d : w1.drew.cell? ⟨b, 1, none⟩ = some (.slice Ab (a :: bs).length cb) := c1
        have HWD : Hid (Below w1.heap.size w1 w1.drew) := hide (Below.refl _ _).drew
        clear hPLC c1
        go_wp2_with fail
        go_region_law (first
          | (refine step_pls rfl _ _ rfl B (.slice Ab (a :: bs).length cb) (a :: bs).reverse (a :: bs).length List.length_reverse rfl PLC ((HWM.out.kept (HB5.out.trans ((below_one w5 _).mono HB5.out.size))).pls) (Nat.le_trans (Nat.le_trans HWM.out.Bb (Nat.le_of_lt HWM.out.lt)) (Nat.le_trans HB5.out.size (below_one w5 _).size)) _ rfl (two_ln _ _ _ _).1 (two_ln _ _ _ _).2 HBL.out ?_
             intro g6 c6 w6 ho6 hg6
             have hW : Below w1.heap.size w1 (w5.alloc (.cells #[.int .i64 (PLC.1 : Int), .int .i64 (PLC.2 : Int)] 76)) := HB5.out.trans ((below_one w5 _).mono HB5.out.size)
             obtain ⟨x6, y6⟩ : w6.cell? ⟨b, 1, none⟩ = some (.slice Ab (a :: bs).length cb) ∧ w6.frozen? ⟨b, 1, none⟩ = false := by
               have hk := HWM.out.kept hW
               have hb := (hg6.block b hk.lt (fun e => row_ne_page hk.pls hk.blk (by decide) e.symm)).trans hk.blk
               exact ⟨(Lib.cell_of_heap hb 1).trans rfl, Lib.frozen_of_heap hb 1⟩
             have HO6 := hide (HWM.out.setBv ho6 (grown_after hW hg6))
             clear ho6 hg6 hW)
          | (go_simp; (with_reducible refine (HIN.out _ HWD.out).mono ?_); rintro e w4 ⟨rfl, hb4⟩; have HB4 := hide (HWD.out.trans (hb4.mono HWD.out.size)); have z4 : w4.cell? ⟨b, 1, none⟩ = some (.slice Ab (a :: bs).length cb) := (HB4.out.cell (World.block_lt_of_cell? _ _ HC1.out)).trans HC1.out; clear hb4)
          | (go_simp; (with_reducible refine (HPL.out _ HB4.out).mono ?_); rintro e w5 ⟨rfl, hb5⟩; have HB5 := hide (HB4.out.trans (hb5.mono HB4.out.size)); have z5 : w5.cell? ⟨b, 1, none⟩ = some (.slice Ab (a :: bs).length cb) := (HB5.out.cell (World.block_lt_of_cell? _ _ HC1.out)).trans HC1.out; have z5a : ∀ ob, (w5.alloc ob).cell? ⟨b, 1, none⟩ = some (.slice Ab (a :: bs).length cb) := fun ob => ((below_one w5 ob).cell (World.block_lt_of_cell? _ _ z5)).trans z5; clear hb5))
        all_goals
          go_wp2_with fail
          go_ret
          exact ⟨rfl, ⟨_, _, _, by have hh := HO6.out.1; rw [HPC.out] at hh; exact hh, rfl, HOK2.out⟩, HFR.out.trans HO6.out.2⟩
end Go.Proofs.Ytdeaofnhdbhknaa
