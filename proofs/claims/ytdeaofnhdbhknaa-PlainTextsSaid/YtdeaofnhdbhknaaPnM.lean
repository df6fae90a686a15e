/- WALK of a page's quote. No statement is proved here. Own work of the verifier. -/
import Derived.Test.YtdeaofnhdbhknaaPnL
namespace Go.Proofs.Ytdeaofnhdbhknaa
open Go.RowKit
set_option linter.unusedVariables false
set_option linter.unusedSimpArgs false
set_option maxRecDepth 100000
/-- the rows of two pages are not the same -/
def Apart (ev lv qe ql : Value) : Prop := ∀ k, ev.ownBlock = some k ∨ lv.ownBlock = some k → qe.ownBlock ≠ some k ∧ ql.ownBlock ≠ some k
theorem row_same {w w' : World} {B : Nat} {e : TypeId} {sz n : Nat} {v : Value} {xs : List Value} (h : w.ownsRow B e sz v n xs) (hk : ∀ k, v.ownBlock = some k → w'.heap[k]? = w.heap[k]?) : w'.ownsRow B e sz v n xs := by
  refine ⟨h.1, ?_⟩
  rcases h.2 with h0 | ⟨g, cap, cur, rfl, h1, h2, h3⟩
  · exact .inl h0
  · exact .inr ⟨g, cap, cur, rfl, h1, (hk g rfl).trans h2, h3⟩
theorem PgW.other {B2 g j j2 : Nat} {q : PgL} {ev lv ev' lv' qe ql : Value} {w w' : World} (h : PgW B2 g j2 q qe ql w) (hf : PgF g j ev lv ev' lv' w w') (ha : Apart ev lv qe ql) (h1 : j2 ≠ j) (h2 : j2 ≠ j + 1) (h3 : j2 + 1 ≠ j) :
    PgW B2 g j2 q qe ql w' ∧ Apart ev' lv' qe ql := by
  obtain ⟨cur, hc, c0, c1⟩ := h.blk
  obtain ⟨cur', hc', hs', hi'⟩ := hf.row cur hc
  have hkeep : ∀ k, qe.ownBlock = some k ∨ ql.ownBlock = some k → k < w.heap.size ∧ w'.heap[k]? = w.heap[k]? := fun k hk => by
    have hlt : k < w.heap.size := by
      rcases hk with hk | hk
      · exact (h.low.1 k hk).2
      · exact (h.low.2 k hk).2
    have hg : k ≠ g := by
      rintro rfl
      rcases hk with hk | hk
      · exact row_ne_page h.ln hc (by decide) hk
      · exact row_ne_page h.bt hc (by decide) hk
    refine ⟨hlt, hf.far k hlt hg (fun e => ?_) (fun e => ?_)⟩
    · obtain ⟨a1, a2⟩ := ha k (.inl e)
      rcases hk with hk | hk
      · exact a1 hk
      · exact a2 hk
    · obtain ⟨a1, a2⟩ := ha k (.inr e)
      rcases hk with hk | hk
      · exact a1 hk
      · exact a2 hk
  refine ⟨⟨⟨cur', hc', (hi' j2 h1 h2).trans c0, (hi' (j2 + 1) h3 (by omega)).trans c1⟩, row_same h.ln (fun k e => (hkeep k (.inl e)).2), row_same h.bt (fun k e => (hkeep k (.inr e)).2), h.Bg⟩, fun k hk => ?_⟩
  have : (ev.ownBlock = some k ∨ lv.ownBlock = some k) ∨ w.heap.size ≤ k := by
    rcases hk with hk | hk
    · rcases hf.en k hk with e | e
      · exact .inl (.inl e)
      · exact .inr e
    · rcases hf.ln k hk with e | e
      · exact .inl (.inr e)
      · exact .inr e
  rcases this with e | e
  · exact ha k e
  · exact ⟨fun e2 => by have := (hkeep k (.inl e2)).1; omega, fun e2 => by have := (hkeep k (.inr e2)).1; omega⟩
theorem addP_last (p : PgL) (x : LnL) : (addP p x).2 = [] := by
  unfold addP
  split
  · rfl
  · rw [putS_append, putS_cons, putS_nil]; unfold putC; rw [if_pos rfl]
def qlen (l : List LnL) : Nat := (l.map fun x => (lineS (x.1 + 1, trimCR x.2)).length + 1).sum
theorem room_add {p : PgL} {x : LnL} {n : Nat} (hx : (10 : UInt8) ∉ x.2) (h : roomP p ((lineS x).length + 1 + n)) : roomP (addP p x) n ∧ roomP p ((lineS x).length + 1) := by
  obtain ⟨h1, h2⟩ := h
  refine ⟨⟨?_, ?_⟩, ⟨by omega, by omega⟩⟩
  · rw [addP_lines hx]; omega
  · rw [addP_last]; show 0 + n ≤ _; omega
set_option maxHeartbeats 4000000 in
theorem quote_any (B g j j2 : Nat) (p q : PgL) (ev lv qe ql : Value) (w : World) (h : PgW B g j p ev lv w) (hq : PgW B g j2 q qe ql w) (ha : Apart ev lv qe ql) (h1 : j2 ≠ j) (h2 : j2 ≠ j + 1) (h3 : j2 + 1 ≠ j) (hok : PgOK q) (hr : roomP p (qlen q.1 + q.2.length + 3)) (hb : bytW [q] ≤ 4000000000000) :
    Calls Try.prog 42 #[.pointer (some ⟨g, j, none⟩), .pointer (some ⟨g, j2, none⟩)] w fun e w' => e = .returned (.tuple #[]) ∧ ∃ ev' lv', PgW B g j (quoteP p q) ev' lv' w' ∧ PgF g j ev lv ev' lv' w w' := by
  obtain ⟨Ae, ce, rfl⟩ := hq.ln.form
  obtain ⟨Al, cl, rfl⟩ := hq.bt.form
  obtain ⟨c0, c1, -, -⟩ := hq.cells
  have hlen : q.1.length ≤ 4000000000000 := by
    have h0 : ∀ l : List LnL, l.length ≤ qlen l := fun l => by
      induction l with
      | nil => exact Nat.le_refl _
      | cons x r ih => unfold qlen at *; simp only [List.map_cons, List.sum_cons, List.length_cons]; omega
    have := h0 q.1
    have := hr.1
    omega
  have H := hide h
  have HQ := hide hq
  have HA := hide ha
  have HR : Hid (roomP p (qlen (q.1.drop 0) + q.2.length + 3)) := hide (by simpa using hr)
  have HOK := hide hok
  have HJ := hide (And.intro h1 (And.intro h2 h3))
  have HLN := hide hlen
  clear h hq ha hr hok h1 h2 h3 hb
  go_enter Try.func42, Try.ntmps42
  go_wp2_with fail
  go_loopw [11] (fun i wr => ∃ (k : Nat) (p' : PgL) (e1 l1 : Value), k ≤ q.1.length ∧ i = .int .i64 k ∧ Hid (PgW B g j p' e1 l1 wr) ∧ Hid (PgF g j ev lv e1 l1 w wr) ∧ Hid (PgW B g j2 q (.slice Ae q.1.length ce) (.slice Al q.2.length cl) wr) ∧ Hid (Apart e1 l1 (.slice Ae q.1.length ce) (.slice Al q.2.length cl)) ∧ Hid ((q.1.drop k).foldl quoteOne p' = q.1.foldl quoteOne p) ∧ Hid (roomP p' (qlen (q.1.drop k) + q.2.length + 3))) (fun i _ => q.1.length - (intOf i).toNat)
  case atStart => exact ⟨0, p, ev, lv, Nat.zero_le _, rfl, H, hide (PgF.refl ..), HQ, HA, hide (by simp), HR⟩
  case round =>
    obtain ⟨k, p', e1, l1, hk, rfl, HP, HF, HQ1, HA1, HD, HRM⟩ := hrel
    by_cases hlt : k < q.1.length
    · obtain ⟨x, hx⟩ : ∃ x, q.1[k]? = some x := ⟨_, List.getElem?_eq_getElem hlt⟩
      have hd : q.1.drop k = x :: q.1.drop (k + 1) := by
        rw [List.drop_eq_getElem_cons hlt]; congr 1; rw [List.getElem?_eq_getElem hlt] at hx; exact Option.some.inj hx
      obtain ⟨a, rfl, -, hcap, hmax, hat⟩ := (LnRow.in HQ1.out.ln).some (fun e => by rw [e] at hlt; simp at hlt)
      obtain ⟨d0, d1⟩ := hat.at hx
      have hx10 : (10 : UInt8) ∉ x.2 := HOK.out.1 x (List.mem_of_getElem? hx)
      have hxl := HRM.out
      rw [hd] at hxl
      have hql : qlen (x :: q.1.drop (k + 1)) + q.2.length + 3 = (lineS (x.1 + 1, trimCR x.2)).length + 1 + (qlen (q.1.drop (k + 1)) + q.2.length + 3) := by
        unfold qlen; simp only [List.map_cons, List.sum_cons]; omega
      rw [hql] at hxl
      obtain ⟨r1, r2⟩ := room_add (x := (x.1 + 1, trimCR x.2)) (trimCR_lf hx10) hxl
      have hlx : 2 * (x.1 + 1) + (trimCR x.2).length ≤ 4000000000000 := by
        have := r2.1; unfold lineS at this; rw [List.length_append, signs_len] at this; simp only at this; omega
      have htl : x.2.length ≤ (trimCR x.2).length + 1 := by
        unfold trimCR; split
        · rw [List.length_dropLast]; omega
        · omega
      obtain ⟨w1, hw1⟩ : ∃ w1, wr.alloc (Obj.cells #[.int .i64 (x.1 : Int), .string (str x.2)] 42) = w1 := ⟨_, rfl⟩
      have hb1 : Below wr.heap.size wr w1 := by rw [← hw1]; exact below_one wr _
      have hx1 : w1.heap[wr.heap.size]? = some (Obj.cells #[.int .i64 (x.1 : Int), .string (str x.2)] 42 (0, 0)) := by rw [← hw1]; exact heap_alloc_new wr _
      have b0 : w1.drew.cell? ⟨wr.heap.size, 0, none⟩ = some (.int .i64 (x.1 : Int)) := (Lib.cell_of_heap hx1 0).trans rfl
      have b1 : w1.drew.cell? ⟨wr.heap.size, 1, none⟩ = some (.string (str x.2)) := (Lib.cell_of_heap hx1 1).trans rfl
      have HP1 := hide (HP.out.kept hb1.drew)
      have HF1 := hide (HF.out.trans (PgF.ofBelow _ _ hb1.drew HP.out.lt))
      have HQ2 := hide (HQ1.out.kept hb1.drew)
      have hwr : IntKind.i64.wrap ((x.1 : Int) + 1) = (x.1 : Int) + 1 := IntWalk.i64_in _ (by omega)
      have HT : Hid (Calls Try.prog 49 #[.string (str x.2), .string ⟨#[13]⟩] w1.drew fun e w' => e = .returned (.string (str (trimCR x.2))) ∧ w' = w1.drew) := hide (by
        have := Try.strings_TrimSuffix (str x.2) ⟨#[13]⟩ w1.drew (by rw [str_size]; omega)
        rw [show Lib.trimSuffix (str x.2).data.toList (⟨#[13]⟩ : ByteArray).data.toList = trimCR x.2 from trimSuffix_cr _] at this
        exact this)
      have HAD : Hid (Calls Try.prog 50 #[.pointer (some ⟨g, j, none⟩), .agg #[.int .i64 ((x.1 : Int) + 1), .string (str (trimCR x.2))]] w1.drew fun e w' => e = .returned (.tuple #[]) ∧ ∃ ev' lv', PgW B g j (quoteOne p' x) ev' lv' w' ∧ PgF g j e1 l1 ev' lv' w1.drew w') := hide (add_any B g j p' e1 l1 (x.1 + 1, trimCR x.2) w1.drew HP1.out (trimCR_lf hx10) r2)
      have HD2 : Hid ((q.1.drop (k + 1)).foldl quoteOne (quoteOne p' x) = q.1.foldl quoteOne p) := hide (by rw [← HD.out, hd]; rfl)
      have HRM2 : Hid (roomP (quoteOne p' x) (qlen (q.1.drop (k + 1)) + q.2.length + 3)) := hide r1
      obtain ⟨S, hS⟩ : ∃ S, S = str x.2 := ⟨_, rfl⟩
      obtain ⟨S2, hS2⟩ : ∃ S, S = str (trimCR x.2) := ⟨_, rfl⟩
      rw [← hS] at d1 hw1 b1 HT
      rw [← hS2] at HT HAD
      clear hx hd hat hx10 hxl hql r1 r2 hlx htl hb1 hx1 HD HRM HP HF HQ1 hcap hmax hS hS2
      go_wp2_with fail
      go_region_law (first
        | (go_simp; (with_reducible refine HT.out.mono ?_); rintro e w2 ⟨rfl, rfl⟩)
        | (go_simp; (with_reducible refine HAD.out.mono ?_); rintro e w2 ⟨rfl, e2, l2, hp2, hf2⟩; have HP2 := hide hp2; have HFF := hide hf2; clear hp2 hf2))
      all_goals
        obtain ⟨q3, a3⟩ := HQ2.out.other HFF.out HA1.out HJ.out.1 HJ.out.2.1 HJ.out.2.2
        have HQ3 := hide q3
        have HA3 := hide a3
        have HF3 := hide (HF1.out.trans HFF.out)
        clear q3 a3
        go_wp2_with fail
        go_roundw
        case rel => exact ⟨k + 1, quoteOne p' x, e2, l2, by omega, by go_num, HP2, HF3, HQ3, HA3, HD2, HRM2⟩
        case measure => have := HLN.out; simp [intOf]; omega
    · obtain rfl : k = q.1.length := by omega
      have HD2 : Hid (p' = q.1.foldl quoteOne p) := hide (by rw [← HD.out, List.drop_length]; rfl)
      obtain ⟨y0, y1, -, -⟩ := HQ1.out.cells
      by_cases hp : q.2 = []
      · have t1 : decide ((0 : Int) < (q.2.length : Int)) = false := by rw [hp]; rfl
        have hn : ¬ (0 < q.2.length) := by rw [hp]; decide
        have HE : Hid (p' = quoteP p q) := hide (by unfold quoteP; rw [if_pos hp]; exact HD2.out)
        clear hp HD HD2
        go_wp2_with fail
        go_end0
        exact ⟨rfl, _, _, by rw [← HE.out]; exact HP.out, HF.out⟩
      · have hpos : 0 < q.2.length := List.length_pos_iff.2 hp
        have t1 : decide ((0 : Int) < (q.2.length : Int)) = true := decide_eq_true (by omega)
        have HE : Hid (addP p' (1, q.2) = quoteP p q) := hide (by unfold quoteP; rw [if_neg hp, ← HD2.out])
        have hcv : (convert 72 9 (.slice Al q.2.length cl)).run Try.prog wr = .ok (.string (str q.2)) wr := ByRow.convert HQ1.out.bt
        have HAD := hide (add_any B g j p' e1 l1 (1, q.2) wr HP.out HOK.out.2 (by
          have := HRM.out
          rw [List.drop_length] at this
          have e : (lineS (1, q.2)).length = 2 + q.2.length := by unfold lineS; rw [List.length_append, signs_len]; show 2 * 1 + q.2.length = _; omega
          rw [e]
          exact ⟨by have := this.1; omega, by have := this.2; omega⟩))
        unfold lnV at HAD
        obtain ⟨S, hS⟩ : ∃ S, S = str q.2 := ⟨_, rfl⟩
        simp only at HAD
        rw [← hS] at hcv HAD
        clear hp HD HD2 hS
        go_wp2_with fail
        refine HAD.out.mono ?_
        rintro e w2 ⟨rfl, e2, l2, hp2, hf2⟩
        rw [HE.out] at hp2
        have HP2 := hide hp2
        have HFF := hide (HF.out.trans hf2)
        clear hp2 hf2
        go_wp2_with fail
        go_end0
        exact ⟨rfl, _, _, HP2.out, HFF.out⟩
end Go.Proofs.Ytdeaofnhdbhknaa
