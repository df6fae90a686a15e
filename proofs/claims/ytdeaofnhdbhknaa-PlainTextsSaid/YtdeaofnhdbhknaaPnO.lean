/- The writer in memory: its innermost page is turned; WALK of endLine. No statement is proved here. Own work of the verifier. -/
import Derived.Test.YtdeaofnhdbhknaaPnN
import Derived.Test.YtdeaofnhdbhknaaPlnW
import Derived.Deep.RegionHeld3
namespace Go.Proofs.Ytdeaofnhdbhknaa
open Go.RowKit
set_option linter.unusedVariables false
set_option linter.unusedSimpArgs false
set_option maxRecDepth 100000
theorem block_ne {w : World} {k : Nat} {c c' : Array Value} {T T' : TypeId} {z z' : Nat × Nat} (h : w.heap[k]? = some (.cells c T z)) (h' : w.heap[k]? = some (.cells c' T' z')) (hT : T ≠ T') : False := by
  rw [h] at h'
  injection h' with h'
  injection h' with _ e _
  exact hT e
theorem PgF.typed {B g j : Nat} {p : PgL} {ev lv ev' lv' : Value} {w w' : World} (hf : PgF g j ev lv ev' lv' w w') (h : PgW B g j p ev lv w) {k : Nat} {c : Array Value} {T : TypeId} {z : Nat × Nat} (hk : w.heap[k]? = some (.cells c T z)) (h1 : T ≠ 74) (h2 : T ≠ 42) (h3 : T ≠ 5) : w'.heap[k]? = some (.cells c T z) := by
  obtain ⟨cur, hc, _⟩ := h.blk
  exact (hf.far k (lt_of_block hk) (fun e => by rw [e] at hk; exact block_ne hk hc h1) (row_ne_page h.ln hk h2.symm) (row_ne_page h.bt hk h3.symm)).trans hk
/-- what the walk asks of a frame -/
theorem PgF.frl {B g j : Nat} {p : PgL} {ev lv ev' lv' : Value} {w w' : World} (hf : PgF g j ev lv ev' lv' w w') (h : PgW B g j p ev lv w) : FrL B w w' :=
  ⟨hf.below h, fun k cur T fz hk hT => (hf.typed h hk (by rcases hT with rfl | rfl <;> decide) (by rcases hT with rfl | rfl <;> decide) (by rcases hT with rfl | rfl <;> decide)).trans hk.symm⟩
theorem FrL.trans {B : Nat} {w w1 w2 : World} (h : FrL B w w1) (k : FrL B w1 w2) : FrL B w w2 :=
  ⟨h.1.trans k.1, fun g cur T fz hg hT => by
    have h1 := h.2 g cur T fz hg hT
    exact (k.2 g cur T fz (h1.trans hg) hT).trans h1⟩
theorem WrM.turned {B b g c : Nat} {bv ev' lv' : Value} {q : PgV} {rest : List PgV} {bs : List PlL} {p' : PgL} {w w' : World} (h : WrM B b (.slice (some ⟨g, 0, none⟩) (rest.length + 1) c) bv (q :: rest) bs w)
    (hw : PgW B g (rest.length * 2) q.p q.ev q.lv w) (hw' : PgW B g (rest.length * 2) p' ev' lv' w') (hf : PgF g (rest.length * 2) q.ev q.lv ev' lv' w w') : WrM B b (.slice (some ⟨g, 0, none⟩) (rest.length + 1) c) bv (⟨p', ev', lv'⟩ :: rest) bs w' := by
  have hap := List.pairwise_cons.1 h.apart
  have hblk := hf.typed hw h.blk (by decide) (by decide) (by decide)
  refine ⟨hblk, ?_, ?_, fun r hr => ?_, ?_, h.Bb⟩
  · refine ⟨by rw [pgVals_length, List.length_reverse], .inr ?_⟩
    rcases h.pgs.2 with ⟨h0, _⟩ | ⟨g', cap, cur, h0, hg, hh, hc, hm, hs, ht⟩
    · cases h0
    · injection h0 with e1 e2 e3
      injection e1 with e1
      injection e1 with e1
      subst e1 e3
      obtain ⟨cur', k1, k2, k3⟩ := hf.row cur hh
      obtain ⟨cw, kw, w0, w1⟩ := hw'.blk
      rw [k1] at kw
      injection kw with kw
      injection kw with kw _ _
      subst kw
      refine ⟨g, c, cur', rfl, hg, k1, hc, hm, k2.trans hs, ?_⟩
      apply List.ext_getElem?
      intro i
      rw [List.getElem?_take]
      have e0 : (pgVals (q :: rest).reverse)[i]? = if i < (q :: rest).length * 2 then cur.toList[i]? else none := by rw [← ht, List.getElem?_take]
      have el : (pgVals rest.reverse).length = rest.length * 2 := by rw [pgVals_length, List.length_reverse]
      show (if i < (rest.length + 1) * 2 then cur'.toList[i]? else none) = (pgVals (⟨p', ev', lv'⟩ :: rest).reverse)[i]?
      rw [List.reverse_cons, pgVals_append] at e0 ⊢
      by_cases hi : i < rest.length * 2
      · rw [if_pos (by omega), List.getElem?_append_left (by rw [el]; exact hi), Array.getElem?_toList, k3 i (by omega) (by omega)]
        rw [List.getElem?_append_left (by rw [el]; exact hi), if_pos (by simp only [List.length_cons]; omega)] at e0
        rw [e0, Array.getElem?_toList]
      · by_cases hi2 : i < (rest.length + 1) * 2
        · rw [if_pos hi2, List.getElem?_append_right (by rw [el]; omega), el, Array.getElem?_toList]
          have : i = rest.length * 2 ∨ i = rest.length * 2 + 1 := by omega
          rcases this with rfl | rfl
          · rw [w0, Nat.sub_self]; rfl
          · rw [w1, Nat.add_sub_cancel_left]; rfl
        · rw [if_neg hi2, List.getElem?_eq_none]
          rw [List.length_append, el]
          simp only [pgVals, List.flatMap_cons, List.flatMap_nil, List.append_nil, List.length_cons, List.length_nil]
          omega
  · refine row_same h.pls (fun k e => ?_)
    rcases h.pls.2 with ⟨h0, _⟩ | ⟨g', cap, cur, h0, hg, hh, _⟩
    · rw [h0] at e; cases e
    · rw [h0] at e
      injection e with e
      subst e
      exact (hf.typed hw hh (by decide) (by decide) (by decide)).trans hh.symm
  · rcases List.mem_cons.1 hr with rfl | hr
    · exact ⟨hw'.ln, hw'.bt⟩
    · obtain ⟨r1, r2⟩ := h.each r (List.mem_cons_of_mem _ hr)
      have ha := hap.1 r hr
      obtain ⟨cur, hc, _⟩ := hw.blk
      have hk : ∀ k, r.ev.ownBlock = some k ∨ r.lv.ownBlock = some k → w'.heap[k]? = w.heap[k]? := fun k e => by
        have hlt : k < w.heap.size := by
          rcases e with e | e
          · exact (World.ownsRow.lt r1 k e).2
          · exact (World.ownsRow.lt r2 k e).2
        have hg : k ≠ g := by
          rintro rfl
          rcases e with e | e
          · exact row_ne_page r1 hc (by decide) e
          · exact row_ne_page r2 hc (by decide) e
        refine hf.far k hlt hg (fun e2 => ?_) (fun e2 => ?_)
        · obtain ⟨a1, a2⟩ := ha k (.inl e2)
          rcases e with e | e
          · exact a1 e
          · exact a2 e
        · obtain ⟨a1, a2⟩ := ha k (.inr e2)
          rcases e with e | e
          · exact a1 e
          · exact a2 e
      exact ⟨row_same r1 (fun k e => hk k (.inl e)), row_same r2 (fun k e => hk k (.inr e))⟩
  · refine List.pairwise_cons.2 ⟨fun r hr => ?_, hap.2⟩
    obtain ⟨r1, r2⟩ := h.each r (List.mem_cons_of_mem _ hr)
    have ha := hap.1 r hr
    intro k hk
    have hk2 : (q.ev.ownBlock = some k ∨ q.lv.ownBlock = some k) ∨ w.heap.size ≤ k := by
      rcases hk with hk | hk
      · rcases hf.en k hk with e | e
        · exact .inl (.inl e)
        · exact .inr e
      · rcases hf.ln k hk with e | e
        · exact .inl (.inr e)
        · exact .inr e
    rcases hk2 with e | e
    · exact ha k e
    · exact ⟨fun e2 => by have := (World.ownsRow.lt r1 k e2).2; omega, fun e2 => by have := (World.ownsRow.lt r2 k e2).2; omega⟩
/-- the innermost place -/
theorem WrM.plc {B b : Nat} {pv bv : Value} {qs : List PgV} {a : PlL} {bs : List PlL} {w : World} (h : WrM B b pv bv qs (a :: bs) w) : ∃ g c, bv = .slice (some ⟨g, 0, none⟩) (bs.length + 1) c ∧ bs.length + 1 ≤ c ∧ c ≤ maxLen ∧ w.cell? ⟨g, bs.length * 2, none⟩ = some (.int .i64 (a.1 : Int)) ∧ w.cell? ⟨g, bs.length * 2 + 1, none⟩ = some (.int .i64 (a.2 : Int)) := by
  have h1 := h.pls
  rcases h.pls.2 with ⟨_, h0⟩ | ⟨g, cap, cur, rfl, hg, hh, hc, hm, hs, ht⟩
  · cases h0
  · have ha : ∀ j, j < 2 → (plVals (a :: bs).reverse)[bs.length * 2 + j]? = [Value.int .i64 (a.1 : Int), .int .i64 (a.2 : Int)][j]? := fun j hj => by
      rw [List.reverse_cons, plVals_append, List.getElem?_append_right (by rw [plVals_length, List.length_reverse]; omega), plVals_length, List.length_reverse, show bs.length * 2 + j - bs.length * 2 = j by omega]
      rfl
    exact ⟨g, cap, rfl, by simpa using hc, hm, by rw [h1.cellAt _ (by simp only [List.length_cons]; omega)]; exact ha 0 (by decide), by rw [h1.cellAt _ (by simp only [List.length_cons]; omega)]; exact ha 1 (by decide)⟩
theorem neq_place (a b : PlL) : ((a.1 : Int) == b.1 && (a.2 : Int) == b.2) = decide (a = b) := by
  obtain ⟨a1, a2⟩ := a
  obtain ⟨b1, b2⟩ := b
  by_cases h : ((a1, a2) : PlL) = (b1, b2)
  · rw [decide_eq_true h]; injection h with h1 h2; subst h1 h2; simp
  · rw [decide_eq_false h]
    rw [Bool.eq_false_iff]
    intro h2
    simp only [Bool.and_eq_true, beq_iff_eq] at h2
    exact h (Prod.ext (by have := h2.1; simp only; omega) (by have := h2.2; simp only; omega))
set_option maxHeartbeats 4000000 in
/-- the line that the innermost row's nodes have begun is ended -/
theorem endLine_any (B b : Nat) (pv bv : Value) (q : PgV) (rest : List PgV) (a : PlL) (bs : List PlL) (w : World) (h : WrM B b pv bv (q :: rest) (a :: bs) w) (hn : rest.length ≤ 1000000000) (hm : bs.length ≤ 1000000000) (hr : roomP q.p 1) :
    Calls Try.prog 40 #[.pointer (some ⟨b, 0, none⟩)] w fun e w' => e = .returned (.tuple #[]) ∧ ∃ ev' lv', WrM B b pv bv (⟨endLn q.p a, ev', lv'⟩ :: rest) (a :: bs) w' ∧ FrL B w w' := by
  obtain ⟨g, c, rfl, hc1, hc2, hp⟩ := h.page
  obtain ⟨gb, cb, rfl, hb1, hb2, d0, d1⟩ := h.plc
  obtain ⟨-, c1, -⟩ := h.cells
  obtain ⟨x0, x1, -, -⟩ := hp.cells
  have HI := hide (inner_any B b _ _ q rest (a :: bs) w h g c rfl hn)
  obtain ⟨Al, cl, hlv⟩ := hp.bt.form
  rw [hlv] at x1
  have HW := hide h
  have HP := hide hp
  have HR := hide hr
  have HLV := hide hlv
  by_cases hl : q.p.2 = []
  · have t1 : decide ((0 : Int) < (q.p.2.length : Int)) = false := by rw [hl]; rfl
    have hn0 : ¬ (0 < q.p.2.length) := by rw [hl]; decide
    have HE : Hid (endLn q.p a = q.p) := hide (by unfold endLn; rw [if_neg (fun e => e.1 hl)])
    clear h hp hr hl hlv
    go_enter Try.func40, Try.ntmps40
    go_wp2_with fail
    refine HI.out.mono ?_
    rintro e w1 ⟨rfl, m, rfl⟩
    have y1 : ∀ k, (w.drewN k).cell? ⟨g, rest.length * 2 + 1, none⟩ = some (.slice Al q.p.2.length cl) := fun k => x1
    go_wp2_with fail
    go_quiet (fail)
    go_wp2_with fail
    go_end0
    have hb : Below w.heap.size w ((w.drewN m).drewN nq) := ⟨rfl, rfl, rfl, Nat.le_refl _, fun _ _ => rfl⟩
    refine ⟨rfl, q.ev, q.lv, ?_, FrL.kept hb (Nat.le_trans HW.out.Bb (Nat.le_of_lt HW.out.lt))⟩
    rw [HE.out]
    exact HW.out.kept hb
  · have hpos : 0 < q.p.2.length := List.length_pos_iff.2 hl
    have t1 : decide ((0 : Int) < (q.p.2.length : Int)) = true := decide_eq_true (by omega)
    have HPL : Hid (∀ w1, Below w.heap.size w w1 → Calls Try.prog 41 #[.pointer (some ⟨g, rest.length * 2, none⟩)] w1 fun e w' => e = .returned (.agg #[.int .i64 ((place q.p).1 : Int), .int .i64 ((place q.p).2 : Int)]) ∧ Below w1.heap.size w1 w') := hide (fun w1 hb => place_any B g _ q.p q.ev q.lv _ (hp.kept hb))
    have hw1 : IntKind.i64.wrap ((bs.length : Int) + 1 - 1) = (bs.length : Int) := by rw [IntWalk.i64_in _ (by omega)]; omega
    have hw2 : wrap64 ((bs.length : Int) + 1 - 1) = (bs.length : Int) := by unfold wrap64; omega
    have hi : (bs.length : Int) < (bs.length : Int) + 1 := by omega
    have hi0 : (0 : Int) ≤ (bs.length : Int) := by omega
    have hi1 : (bs.length : Int) < ((bs.length + 1 : Nat) : Int) := by omega
    have hi2 : (bs.length : Int).toNat = bs.length := by omega
    have hi3 : bs.length < bs.length + 1 := by omega
    have hw3 : IntKind.i64.wrap (bs.length : Int) = (bs.length : Int) := IntWalk.i64_in _ (by omega)
    have hw4 : wrap64 (bs.length : Int) = (bs.length : Int) := by unfold wrap64; omega
    have HKP : Hid (∀ w2 w3, Below w2.heap.size w2 w3 → Below w.heap.size w w2 → Below w.heap.size w w3 ∧ w3.cell? ⟨g, rest.length * 2 + 1, none⟩ = some (.slice Al q.p.2.length cl) ∧ w3.cell? ⟨b, 1, none⟩ = some (.slice (some ⟨gb, 0, none⟩) (bs.length + 1) cb) ∧ w3.cell? ⟨gb, bs.length * 2, none⟩ = some (.int .i64 (a.1 : Int)) ∧ w3.cell? ⟨gb, bs.length * 2 + 1, none⟩ = some (.int .i64 (a.2 : Int))) := hide fun w2 w3 h3 h2 => by
      have hb := h2.trans (h3.mono h2.size)
      exact ⟨hb, (hb.cell (World.block_lt_of_cell? _ _ x1)).trans x1, (hb.cell (World.block_lt_of_cell? _ _ c1)).trans c1, (hb.cell (World.block_lt_of_cell? _ _ d0)).trans d0, (hb.cell (World.block_lt_of_cell? _ _ d1)).trans d1⟩
    obtain ⟨P1, hP1⟩ : ∃ P, P = (place q.p).1 := ⟨_, rfl⟩
    obtain ⟨P2, hP2⟩ : ∃ P, P = (place q.p).2 := ⟨_, rfl⟩
    rw [← hP1, ← hP2] at HPL
    clear h hp hr hlv
    by_cases h1 : P1 = a.1
    · by_cases h2 : P2 = a.2
      · have hpl : place q.p = a := Prod.ext (hP1.symm.trans h1) (hP2.symm.trans h2)
        have e1 : ((P1 : Int) == (a.1 : Int)) = true := by rw [h1]; exact beq_self_eq_true _
        have e2 : ((P2 : Int) == (a.2 : Int)) = true := by rw [h2]; exact beq_self_eq_true _
        clear h1 h2
        have HE : Hid (endLn q.p a = q.p) := hide (by unfold endLn; rw [if_neg (fun e => e.2 hpl)])
        clear hpl hl hP1 hP2
        go_enter Try.func40, Try.ntmps40
        go_wp2_with fail
        refine HI.out.mono ?_
        rintro e w1 ⟨rfl, hm⟩
        have hcb : Below w.heap.size w w1 := by
          obtain ⟨m, rfl⟩ := hm
          exact ⟨rfl, rfl, rfl, Nat.le_refl _, fun _ _ => rfl⟩
        obtain ⟨-, k1, k2, k3, k4⟩ := HKP.out w w1 hcb (Below.refl _ _)
        clear x0 x1 c1 d0 d1 hm
        go_wp2_with fail
        go_region_held3 (fun w' => Below w.heap.size w w' ∧ w'.cell? ⟨g, rest.length * 2 + 1, none⟩ = some (.slice Al q.p.2.length cl) ∧ w'.cell? ⟨b, 1, none⟩ = some (.slice (some ⟨gb, 0, none⟩) (bs.length + 1) cb) ∧ w'.cell? ⟨gb, bs.length * 2, none⟩ = some (.int .i64 (a.1 : Int)) ∧ w'.cell? ⟨gb, bs.length * 2 + 1, none⟩ = some (.int .i64 (a.2 : Int)))
          (refine ⟨?_, ?_, ?_, ?_, ?_⟩ <;> first | (with_reducible assumption) | (with_reducible exact Below.drew (by assumption)) | (with_reducible exact (HKP.out _ _ (by with_reducible assumption) (by first | with_reducible assumption | with_reducible exact And.left (by assumption))).1) | (with_reducible exact (HKP.out _ _ (by with_reducible assumption) (by first | with_reducible assumption | with_reducible exact And.left (by assumption))).2.1) | (with_reducible exact (HKP.out _ _ (by with_reducible assumption) (by first | with_reducible assumption | with_reducible exact And.left (by assumption))).2.2.1) | (with_reducible exact (HKP.out _ _ (by with_reducible assumption) (by first | with_reducible assumption | with_reducible exact And.left (by assumption))).2.2.2.1) | (with_reducible exact (HKP.out _ _ (by with_reducible assumption) (by first | with_reducible assumption | with_reducible exact And.left (by assumption))).2.2.2.2) | go_keep)
          (first
          | (go_at_call 41; go_must (refine (HPL.out _ (by first | with_reducible assumption | with_reducible exact And.left (by assumption))).mono ?_; rintro e w3 ⟨rfl, hb3⟩)))
        all_goals
          have hbc : Below w.heap.size w w3 := by first | with_reducible assumption | with_reducible exact And.left (by assumption)
          have HB2 := hide hbc
          clear hbc
          go_wp2_with fail
          go_end0
          refine ⟨rfl, q.ev, q.lv, ?_, FrL.kept HB2.out (Nat.le_trans HW.out.Bb (Nat.le_of_lt HW.out.lt))⟩
          rw [HE.out]
          exact HW.out.kept HB2.out
      · have hpl : place q.p ≠ a := fun e => h2 (by rw [hP2, e])
        have e1 : ((P1 : Int) == (a.1 : Int)) = true := by rw [h1]; exact beq_self_eq_true _
        have e2 : ((P2 : Int) == (a.2 : Int)) = false := by rw [beq_eq_false_iff_ne]; omega
        clear h1 h2
        have HE : Hid (putS q.p [10] = endLn q.p a) := hide (by unfold endLn; rw [if_pos ⟨hl, hpl⟩])
        clear hpl hl hP1 hP2
        go_enter Try.func40, Try.ntmps40
        go_wp2_with fail
        refine HI.out.mono ?_
        rintro e w1 ⟨rfl, hm⟩
        have hcb : Below w.heap.size w w1 := by
          obtain ⟨m, rfl⟩ := hm
          exact ⟨rfl, rfl, rfl, Nat.le_refl _, fun _ _ => rfl⟩
        obtain ⟨-, k1, k2, k3, k4⟩ := HKP.out w w1 hcb (Below.refl _ _)
        clear x0 x1 c1 d0 d1 hm
        go_wp2_with fail
        go_region_held3 (fun w' => Below w.heap.size w w' ∧ w'.cell? ⟨g, rest.length * 2 + 1, none⟩ = some (.slice Al q.p.2.length cl) ∧ w'.cell? ⟨b, 1, none⟩ = some (.slice (some ⟨gb, 0, none⟩) (bs.length + 1) cb) ∧ w'.cell? ⟨gb, bs.length * 2, none⟩ = some (.int .i64 (a.1 : Int)) ∧ w'.cell? ⟨gb, bs.length * 2 + 1, none⟩ = some (.int .i64 (a.2 : Int)))
          (refine ⟨?_, ?_, ?_, ?_, ?_⟩ <;> first | (with_reducible assumption) | (with_reducible exact Below.drew (by assumption)) | (with_reducible exact (HKP.out _ _ (by with_reducible assumption) (by first | with_reducible assumption | with_reducible exact And.left (by assumption))).1) | (with_reducible exact (HKP.out _ _ (by with_reducible assumption) (by first | with_reducible assumption | with_reducible exact And.left (by assumption))).2.1) | (with_reducible exact (HKP.out _ _ (by with_reducible assumption) (by first | with_reducible assumption | with_reducible exact And.left (by assumption))).2.2.1) | (with_reducible exact (HKP.out _ _ (by with_reducible assumption) (by first | with_reducible assumption | with_reducible exact And.left (by assumption))).2.2.2.1) | (with_reducible exact (HKP.out _ _ (by with_reducible assumption) (by first | with_reducible assumption | with_reducible exact And.left (by assumption))).2.2.2.2) | go_keep)
          (first
          | (go_at_call 41; go_must (refine (HPL.out _ (by first | with_reducible assumption | with_reducible exact And.left (by assumption))).mono ?_; rintro e w3 ⟨rfl, hb3⟩)))
        all_goals
          have hbc : Below w.heap.size w w3 := by first | with_reducible assumption | with_reducible exact And.left (by assumption)
          have HB2 := hide hbc
          clear hbc
          have HWR := hide (write_any B g (rest.length * 2) q.p q.ev q.lv ⟨#[10]⟩ w3 (HP.out.kept HB2.out) (by decide) HR.out)
          go_wp2_with fail
          refine HWR.out.mono ?_
          rintro e w4 ⟨rfl, e4, l4, hp4, hf4⟩
          rw [show putS q.p (⟨#[10]⟩ : ByteArray).data.toList = endLn q.p a from HE.out] at hp4
          have HT4 := hide ((HW.out.kept HB2.out).turned (HP.out.kept HB2.out) hp4 hf4)
          have HF4 := hide ((FrL.kept HB2.out (Nat.le_trans HW.out.Bb (Nat.le_of_lt HW.out.lt))).trans (hf4.frl (HP.out.kept HB2.out)))
          clear hp4 hf4
          go_wp2_with fail
          go_end0
          exact ⟨rfl, _, _, HT4.out, HF4.out⟩
    · have hpl : place q.p ≠ a := fun e => h1 (by rw [hP1, e])
      have e1 : ((P1 : Int) == (a.1 : Int)) = false := by rw [beq_eq_false_iff_ne]; omega
      clear h1
      have HE : Hid (putS q.p [10] = endLn q.p a) := hide (by unfold endLn; rw [if_pos ⟨hl, hpl⟩])
      clear hpl hl hP1 hP2
      go_enter Try.func40, Try.ntmps40
      go_wp2_with fail
      refine HI.out.mono ?_
      rintro e w1 ⟨rfl, hm⟩
      have hcb : Below w.heap.size w w1 := by
        obtain ⟨m, rfl⟩ := hm
        exact ⟨rfl, rfl, rfl, Nat.le_refl _, fun _ _ => rfl⟩
      obtain ⟨-, k1, k2, k3, k4⟩ := HKP.out w w1 hcb (Below.refl _ _)
      clear x0 x1 c1 d0 d1 hm
      go_wp2_with fail
      go_region_held3 (fun w' => Below w.heap.size w w' ∧ w'.cell? ⟨g, rest.length * 2 + 1, none⟩ = some (.slice Al q.p.2.length cl) ∧ w'.cell? ⟨b, 1, none⟩ = some (.slice (some ⟨gb, 0, none⟩) (bs.length + 1) cb) ∧ w'.cell? ⟨gb, bs.length * 2, none⟩ = some (.int .i64 (a.1 : Int)) ∧ w'.cell? ⟨gb, bs.length * 2 + 1, none⟩ = some (.int .i64 (a.2 : Int)))
        (refine ⟨?_, ?_, ?_, ?_, ?_⟩ <;> first | (with_reducible assumption) | (with_reducible exact Below.drew (by assumption)) | (with_reducible exact (HKP.out _ _ (by with_reducible assumption) (by first | with_reducible assumption | with_reducible exact And.left (by assumption))).1) | (with_reducible exact (HKP.out _ _ (by with_reducible assumption) (by first | with_reducible assumption | with_reducible exact And.left (by assumption))).2.1) | (with_reducible exact (HKP.out _ _ (by with_reducible assumption) (by first | with_reducible assumption | with_reducible exact And.left (by assumption))).2.2.1) | (with_reducible exact (HKP.out _ _ (by with_reducible assumption) (by first | with_reducible assumption | with_reducible exact And.left (by assumption))).2.2.2.1) | (with_reducible exact (HKP.out _ _ (by with_reducible assumption) (by first | with_reducible assumption | with_reducible exact And.left (by assumption))).2.2.2.2) | go_keep)
        (first
        | (go_at_call 41; go_must (refine (HPL.out _ (by first | with_reducible assumption | with_reducible exact And.left (by assumption))).mono ?_; rintro e w3 ⟨rfl, hb3⟩)))
      all_goals
        have hbc : Below w.heap.size w w3 := by first | with_reducible assumption | with_reducible exact And.left (by assumption)
        have HB2 := hide hbc
        clear hbc
        have HWR := hide (write_any B g (rest.length * 2) q.p q.ev q.lv ⟨#[10]⟩ w3 (HP.out.kept HB2.out) (by decide) HR.out)
        go_wp2_with fail
        refine HWR.out.mono ?_
        rintro e w4 ⟨rfl, e4, l4, hp4, hf4⟩
        rw [show putS q.p (⟨#[10]⟩ : ByteArray).data.toList = endLn q.p a from HE.out] at hp4
        have HT4 := hide ((HW.out.kept HB2.out).turned (HP.out.kept HB2.out) hp4 hf4)
        have HF4 := hide ((FrL.kept HB2.out (Nat.le_trans HW.out.Bb (Nat.le_of_lt HW.out.lt))).trans (hf4.frl (HP.out.kept HB2.out)))
        clear hp4 hf4
        go_wp2_with fail
        go_end0
        exact ⟨rfl, _, _, HT4.out, HF4.out⟩
end Go.Proofs.Ytdeaofnhdbhknaa
