/- WALK of fold.clone. No statement is proved here. Own work of the verifier. -/
import Derived.Test.YtjaeheicndfdnaaDoorFoldC
import Derived.Deep.LoopGhost
namespace Go.Proofs.YtjaeheicndfdnaaDoor
open Go.RowKit
set_option linter.unusedVariables false
set_option linter.unusedSimpArgs false
set_option maxRecDepth 100000
theorem keep_old {B : Nat} {w w' : World} {row : Option Nat} (hg : w.grownBy w' row) (hB : B ≤ w.heap.size) (hr : ∀ k, row = some k → B ≤ k) : ∀ b, OldB B b → w'.heap[b]? = w.heap[b]? := fun b hb => hg.block b (Nat.lt_of_lt_of_le hb hB) (fun e => by have := hr b e.symm; unfold OldB at hb; omega)
/-- one node more is done: w5 is w but for the row u; then its row is put behind the others -/
theorem CI.next {B gu cu : Nat} {P0 N : List PendV} {ks done : List KidV} {lv lv' v1 v2 : Value} {qs : List KidV} {q : KidV} {w1 w w5 w6 : World} (h : CI B (.slice (some ⟨gu, 0, none⟩) ks.length cu) P0 ks lv done N w1 w)
    (hq : ks[done.length]? = some q) (hg5 : w.grownBy w5 (some gu)) (hrow5 : w5.ownsRow B 32 4 (.slice (some ⟨gu, 0, none⟩) ks.length cu) ks.length (nodeVals ((done ++ [(q.1, (v1, v2))]) ++ ks.drop (done.length + 1))))
    (ha5 : w5.ownsRow w.heap.size 41 2 v1 q.1.1.attrs.length (atVals q.1.1.attrs)) (hk5 : KRow (OldB B) w.heap.size v2 qs w5) (he5 : qs.map Prod.fst = q.1.2.list)
    (hl6 : w6.ownsRow B 22 1 lv' ((P0 ++ N).length + 1) ((P0 ++ N).map Prod.fst ++ [v2])) (hg6 : w5.grownBy w6 lv.ownBlock) :
    CI B (.slice (some ⟨gu, 0, none⟩) ks.length cu) P0 ks lv' (done ++ [(q.1, (v1, v2))]) (N ++ [(v2, qs)]) w1 w6 := by
  obtain ⟨ha1, ha2⟩ := List.pairwise_cons.1 h.apart
  have hBw : B ≤ w.heap.size := Nat.le_trans h.base h.size
  have hBg : B ≤ gu := (h.row.lt gu rfl).1
  have hlen : (done ++ [(q.1, (v1, v2))]).length = done.length + 1 := by simp
  have hlt : done.length < ks.length := by
    rcases Nat.lt_or_ge done.length ks.length with h1 | h1
    · exact h1
    · rw [List.getElem?_eq_none h1] at hq; cases hq
  have hdrop : ks.drop done.length = q :: ks.drop (done.length + 1) := by
    rw [List.drop_eq_getElem_cons hlt]
    congr 1
    rw [List.getElem?_eq_getElem hlt] at hq
    exact Option.some.inj hq
  have hleft5 : w5.ownsRow B 22 1 lv (P0 ++ N).length ((P0 ++ N).map Prod.fst) := h.left.kept hg5 (ownsRow_diff (by decide) h.left h.row)
  have hlb : ∀ k, lv.ownBlock = some k → B ≤ k := fun k e => (h.left.lt k e).1
  have hold5 := keep_old hg5 hBw (fun k e => by injection e with e; omega)
  have hB5 : B ≤ w5.heap.size := Nat.le_trans hBw hg5.size
  have hold6 := keep_old hg6 hB5 hlb
  have hold : ∀ b, OldB B b → w6.heap[b]? = w.heap[b]? := fun b hb => (hold6 b hb).trans (hold5 b hb)
  have hpk : ∀ p : PendV, p.1.ownBlock = none ∨ p.1.ownBlock ≠ some gu → KRow (OldB B) B p.1 p.2 w → KRow (OldB B) B p.1 p.2 w6 := fun p hne hp => by
    have h5 := hp.turned hg5 (fun k hk => Nat.lt_of_lt_of_le hk hBw) (fun k e hk => by injection e with e; unfold OldB at hk; omega) hne
    exact h5.turned hg6 (fun k hk => Nat.lt_of_lt_of_le hk hB5) (fun k e hk => by have := hlb k e; unfold OldB at hk; omega) (ownsRow_diff (by decide) h5.row hleft5)
  have hv2 : ∀ k, v2.ownBlock = some k → w.heap.size ≤ k ∧ k < w5.heap.size := fun k e => hk5.row.lt k e
  have hkN : KRow (OldB B) B v2 qs w6 := by
    have h5 : KRow (OldB B) B v2 qs w5 := ⟨ownsRow_down hk5.row hBw, hk5.each, hk5.out⟩
    exact h5.turned hg6 (fun k hk => Nat.lt_of_lt_of_le hk hB5) (fun k e hk => by have := hlb k e; unfold OldB at hk; omega) (ownsRow_diff (by decide) h5.row hleft5)
  refine ⟨?_, ?_, ?_, by rw [hlen]; omega, by simp [h.nlen], ?_, ?_, ?_, ?_, ?_, ?_, ?_, ?_, h.base, ?_, Nat.le_trans h.size (Nat.le_trans hg5.size hg6.size)⟩
  · rw [← List.append_assoc, List.map_append, List.length_append]
    exact hl6
  · rw [hlen]
    exact hrow5.kept hg6 (ownsRow_diff (by decide) hrow5 hleft5)
  · rw [hlen, List.map_append, h.fst, List.take_add_one, hq, Option.toList_some, List.map_append]
    rfl
  · rw [hlen]
    intro x hx
    have := h.rest x (by rw [hdrop]; exact List.mem_cons_of_mem _ hx)
    exact ⟨this.1.mono hold (fun _ y => y), this.2.mono hold (fun _ y => y)⟩
  · intro x hx
    have hgo : ∀ {v : Value} {n : Nat} {xs : List Value}, w5.ownsRow w1.heap.size 41 2 v n xs → w6.ownsRow w1.heap.size 41 2 v n xs := fun hy => hy.kept hg6 (ownsRow_diff (by decide) hy hleft5)
    rcases List.mem_append.1 hx with hx | hx
    · exact hgo ((h.attrs x hx).kept hg5 (ownsRow_diff (by decide) (h.attrs x hx) h.row))
    · rw [List.mem_singleton] at hx
      subst hx
      exact hgo (ownsRow_down ha5 h.size)
  · intro x hx
    rcases List.mem_append.1 hx with hx | hx
    · obtain ⟨p, hp, e1, e2⟩ := h.kids x hx
      exact ⟨p, List.mem_append.2 (.inl hp), e1, e2⟩
    · rw [List.mem_singleton] at hx
      subst hx
      exact ⟨(v2, qs), List.mem_append.2 (.inr (List.mem_singleton.2 rfl)), rfl, he5⟩
  · rw [cntP_append, h.cnt, List.map_append, List.map_singleton, cntL_snoc]
    simp only [cntP, he5]
    rw [← cntL_list]
    omega
  · intro p hp
    rw [← List.append_assoc] at hp
    rcases List.mem_append.1 hp with hp | hp
    · refine hpk p ?_ (h.pend p hp)
      have := apartP_symm (ha1 p hp)
      exact this
    · rw [List.mem_singleton] at hp
      subst hp
      exact hkN
  · rw [← List.append_assoc]
    refine List.pairwise_cons.2 ⟨fun p hp => ?_, List.pairwise_append.2 ⟨ha2, List.pairwise_singleton _ _, fun p hp z hz => ?_⟩⟩
    · rcases List.mem_append.1 hp with hp | hp
      · exact ha1 p hp
      · rw [List.mem_singleton] at hp
        subst hp
        refine .inr fun e => ?_
        have h1 := (hv2 gu e.symm).1
        have h2 := (h.row.lt gu rfl).2
        omega
    · rw [List.mem_singleton] at hz
      subst hz
      cases hp2 : p.1.ownBlock with
      | none => exact .inl hp2
      | some k =>
        refine .inr fun e => ?_
        rw [hp2] at e
        have h1 := (hv2 k e.symm).1
        have h2 := ((h.pend p hp).row.lt k hp2).2
        omega
  · intro p hp k e
    rcases List.mem_append.1 hp with hp | hp
    · exact h.fresh p hp k e
    · rw [List.mem_singleton] at hp
      subst hp
      exact Nat.le_trans h.size (hv2 k e).1
  · intro k hB hk hne hP0 hty
    have e0 := h.frame k hB hk hne hP0 hty
    have hkw : k < w.heap.size := Nat.lt_of_lt_of_le hk h.size
    have e5 : w5.heap[k]? = w.heap[k]? := hg5.block k hkw (fun e => hne e.symm)
    rw [hg6.block k (Nat.lt_of_lt_of_le hkw hg5.size) (fun e => ?_), e5, e0]
    exact ownsRow_other hleft5 (r := k) (fun cur' e2 => hty cur' (by rw [← e0, ← e5]; exact e2)) e.symm
  · have hb5 : Below B w1 w5 := h.below.grown hg5 hBw (fun k e => by injection e with e; omega)
    exact hb5.grown hg6 hB5 hlb
theorem cntL_ge (l : List (NdH × Tr)) : l.length ≤ cntL l := by induction l with
  | nil => exact Nat.le_refl _
  | cons p r ih => simp only [List.length_cons, cntL]; omega
theorem cntP_ge (P : List PendV) : P.length ≤ cntP P := by induction P with
  | nil => exact Nat.le_refl _
  | cons p r ih => simp only [List.length_cons, cntP]; omega
theorem cntL_take (l : List (NdH × Tr)) (k : Nat) : cntL (l.take k) ≤ cntL l := by induction l generalizing k with
  | nil => simp
  | cons p r ih => cases k with
    | zero => simp [cntL]
    | succ k => simp only [List.take_succ_cons, cntL]; have := ih k; omega
theorem cntL_mem {l : List (NdH × Tr)} {p : NdH × Tr} (h : p ∈ l) : p.2.count < cntL l := by induction l with
  | nil => cases h
  | cons q r ih =>
    simp only [cntL]
    rcases List.mem_cons.1 h with rfl | h
    · omega
    · have := ih h; omega
def fewL (l : List (NdH × Tr)) : Prop := ∀ p ∈ l, attrsFew p.1 = true ∧ p.2.all attrsFew = true
theorem fewL_all (T : Tr) (h : T.all attrsFew = true) : fewL T.list := by induction T with
  | nil => intro p hp; cases hp
  | cons g K R _ ih =>
    simp only [Tr.all, Bool.and_eq_true] at h
    intro p hp
    rcases List.mem_cons.1 hp with rfl | hp
    · exact ⟨h.1, h.2.1⟩
    · exact ih h.2.2 p hp
def FewP (P : List PendV) : Prop := ∀ p ∈ P, fewL (p.2.map Prod.fst)
theorem CI.few {B : Nat} {u lv : Value} {P0 N : List PendV} {ks done : List KidV} {w1 w : World} (h : CI B u P0 ks lv done N w1 w) (h0 : FewP (P0 ++ [(u, ks)])) (hN : ∀ p ∈ N, ∃ q ∈ done, p.2.map Prod.fst = q.1.2.list) : FewP (P0 ++ N) := by
  intro p hp
  rcases List.mem_append.1 hp with hp | hp
  · exact h0 p (List.mem_append.2 (.inl hp))
  · obtain ⟨q, hq, e⟩ := hN p hp
    rw [e]
    have hk := h0 (u, ks) (by simp)
    have hqm : q.1 ∈ ks.map Prod.fst := by
      have h1 : q.1 ∈ done.map Prod.fst := List.mem_map.2 ⟨q, hq, rfl⟩
      rw [h.fst] at h1
      exact List.mem_of_mem_take (by rw [← List.map_take]; exact h1)
    exact fewL_all _ (hk q.1 hqm).2
set_option maxHeartbeats 8000000 in
theorem clone_any (v : Value) (T : Tr) (w : World) (hT : NodesIn w v T) (hc : T.count ≤ 1000000) (ha : T.all attrsFew = true) :
    Calls Tryd.prog 25 #[v] w fun e w' => ∃ u, e = .returned u ∧ ∃ ks S, KRow (NewB S w') w.heap.size u ks w' ∧ ks.map Prod.fst = T.list ∧ w.heap.size ≤ S ∧ Below w.heap.size w w' := by
  have hlen := Tr.len_count T
  have HC := hide (cloneN_any (fun b => b < w.heap.size) v T w hT (fun b hb => hb) (by omega))
  have HFL := hide (fewL_all T ha)
  have HTC : Hid (cntL T.list = T.count) := hide (cntL_list T).symm
  obtain ⟨A0, c0, rfl⟩ := NodesC.form hT
  clear hT ha hlen
  go_enter Tryd.func25, Tryd.ntmps25
  go_wp2_with fail
  refine HC.out.mono ?_
  rintro e w1 ⟨vo, rfl, qs, hk, hq, hb⟩
  obtain ⟨A1, c1, hv1, _⟩ := hk.slice
  have hvo : vo.oneCell' = true := by rw [hv1]; rfl
  have HCO : Hid (∀ W, W = w1.alloc (.cells #[vo] 22) → CO w.heap.size (w1.heap.size + 1) vo T (.slice (some ⟨w1.heap.size, 0, none⟩) 1 1) [(vo, qs)] w W) := hide (by
    rintro W rfl
    have hb1 := below_one w1 (Obj.cells #[vo] 22)
    refine ⟨⟨rfl, .inr ⟨w1.heap.size, 1, #[vo], rfl, hb.size, ?_, Nat.le_refl _, by decide, rfl, rfl⟩⟩, fun p hp => ?_, List.pairwise_singleton _ _, fun w' hs hf hp => ?_, bl_two hb hb1, Nat.le_trans hb.size hb1.size⟩
    · show (w1.heap.push _)[w1.heap.size]? = _
      exact Array.getElem?_push_size
    · rw [List.mem_singleton] at hp
      subst hp
      exact hk.kept (fun k hk2 => Nat.lt_of_lt_of_le hk2 hb.size) hb1
    · have := hp _ (List.mem_singleton.2 rfl)
      rw [hq, World.size_alloc] at this
      exact this)
  have HOB : Hid ((∀ k, vo.ownBlock = some k → k < w1.heap.size + 1) ∧ w.heap.size ≤ w1.heap.size + 1) := hide ⟨fun k e => Nat.lt_succ_of_lt (hk.row.lt k e).2, Nat.le_succ_of_le hb.size⟩
  have HFP : Hid (FewP [(vo, qs)]) := hide (by
    intro p hp
    rw [List.mem_singleton] at hp
    subst hp
    rw [hq]; exact HFL.out)
  have HCN : Hid (cntP [(vo, qs)] = T.count + 1) := hide (by simp only [cntP, hq]; rw [HTC.out])
  subst hv1
  clear hk hq hb hvo HC HFL HTC
  go_wp2_with fail
  go_loopg [4] (T.count + 1) (fun g lv wx => ∃ P A c, lv = .slice A P.length c ∧ Hid (g = cntP P) ∧ Hid (g ≤ 1000001) ∧ Hid (CO w.heap.size (w1.heap.size + 1) (.slice A1 qs.length c1) T (.slice A P.length c) P w wx) ∧ Hid (FewP P))
  case atStart => exact ⟨[(.slice A1 qs.length c1, qs)], _, _, rfl, hide HCN.out.symm, hide (by omega), hide (HCO.out _ rfl), HFP⟩
  case round =>
    obtain ⟨P, A, c, rfl, HG, HG2, HO, HF⟩ := hrel
    rcases List.eq_nil_or_concat P with rfl | ⟨P0, ⟨u, ks⟩, rfl⟩
    · have hz : ([] : List PendV).length = 0 := rfl
      rw [hz]
      have HR : Hid (RowDone w.heap.size (w1.heap.size + 1) (.slice A1 qs.length c1) T.list wr) := hide (HO.out.wand wr (Nat.le_refl _) (fun k _ _ _ _ => rfl) (fun p hp => (by cases hp)))
      go_wp2_with fail
      go_ret
      obtain ⟨kk, r1, r2, r3⟩ := HR.out
      exact ⟨_, rfl, kk, w1.heap.size + 1, ⟨r1, r3, fun g e hg => absurd hg.1 (Nat.not_le_of_lt (HOB.out.1 g e))⟩, r2, HOB.out.2, HO.out.below⟩
    · rw [List.concat_eq_append] at HG HO HF
      rw [List.concat_eq_append, List.length_append, List.length_singleton]
      rw [List.length_append, List.length_singleton] at HO
      obtain ⟨gl, hA⟩ : ∃ gl, A = some ⟨gl, 0, none⟩ := by
        rcases HO.out.left.2 with ⟨h0, _⟩ | ⟨g, cap, cur, h0, _⟩
        · injection h0 with _ h0 _; omega
        · injection h0 with h0 _ _; exact ⟨g, h0⟩
      subst hA
      have hleft := HO.out.left
      rw [List.length_append, List.length_singleton, List.map_append] at hleft
      have hcell : wr.cell? ⟨gl, P0.length, none⟩ = some u := by
        rw [hleft.cellAt _ (by omega), List.getElem?_append_right (by rw [List.length_map]; omega), List.length_map, Nat.sub_self]; rfl
      have hcap : P0.length + 1 ≤ c ∧ c ≤ maxLen := by
        rcases hleft.2 with ⟨h0, _⟩ | ⟨g, cap, cur, h0, _, _, h1, h2, _⟩
        · cases h0
        · injection h0 with _ _ h0; rw [h0]; exact ⟨h1, h2⟩
      have hku := HO.out.pend (u, ks) (by simp)
      obtain ⟨A5, c5, hu5, _⟩ := hku.slice
      simp only at hu5
      have HPOP := hide HO.out.pop
      have HCNT : Hid (gk = cntP P0 + (cntL (ks.map Prod.fst) + 1)) := hide (by rw [HG.out, cntP_append]; rfl)
      have hks : ks.length ≤ 1000001 := by
        have h1 := cntL_ge (ks.map Prod.fst)
        rw [List.length_map] at h1
        have h2 := HCNT.out
        have h3 := HG2.out
        omega
      have hP0 : P0.length ≤ 1000001 := by
        have h1 := cntP_ge P0
        have h2 := HCNT.out
        have h3 := HG2.out
        omega
      subst hu5
      clear hleft hku
      obtain ⟨n0, hn0⟩ : ∃ n0, P0.length = n0 := ⟨_, rfl⟩
      rw [hn0] at hcell hP0 hcap ⊢
      have HN0 := hide hn0
      clear hn0
      unfold maxLen at hcap
      have hw1 : wrap64 (((n0 + 1 : Nat) : Int) - 1) = (n0 : Int) := by unfold wrap64; omega
      have hw2 : wrap64 ((n0 : Int) + 1 - 1) = (n0 : Int) := by unfold wrap64; omega
      have hcell2 : wr.cell? { block := gl, off := 0 + n0 } = some (.slice A5 ks.length c5) := by rw [Nat.zero_add]; exact hcell
      go_wp2_with fail
      rename World => wx
      go_loopw [4, 27] (fun lv iv w2 => ∃ (done : List KidV) (N : List PendV) (A4 : Option Addr) (c4 : Nat), lv = .slice A4 (n0 + done.length) c4 ∧ iv = .int .i64 (done.length : Int) ∧ done.length ≤ ks.length ∧ Hid (CI w.heap.size (.slice A5 ks.length c5) P0 ks (.slice A4 (n0 + done.length) c4) done N wx w2) ∧ Hid (∀ p ∈ N, ∃ q ∈ done, p.2.map Prod.fst = q.1.2.list)) (fun _ iv _ => ks.length - (intOf iv).toNat)
      case atStart => exact ⟨[], [], _, _, by rw [List.length_nil, Nat.add_zero], rfl, Nat.zero_le _, hide (by have := HPOP.out; rw [HN0.out] at this; exact this), hide (fun p hp => by cases hp)⟩
      case round =>
        obtain ⟨done, N, A4, c4, rfl, rfl, hdl, HI, HNM⟩ := hrel
        obtain ⟨i, hi⟩ : ∃ i, done.length = i := ⟨_, rfl⟩
        rw [hi] at hdl ⊢
        have HIL := hide hi
        clear hi
        by_cases hlt : i < ks.length
        · obtain ⟨q, hq⟩ : ∃ q, ks[i]? = some q := ⟨_, List.getElem?_eq_getElem hlt⟩
          obtain ⟨gu, hA5⟩ : ∃ gu, A5 = some ⟨gu, 0, none⟩ := by
            rcases HI.out.row.2 with ⟨h0, h1⟩ | ⟨g, cap, cur, h0, _⟩
            · omega
            · injection h0 with h0 _ _; exact ⟨g, h0⟩
          subst hA5
          have hrow := HI.out.row
          have hdrop : ks.drop done.length = q :: ks.drop (done.length + 1) := by
            rw [HIL.out, List.drop_eq_getElem_cons hlt]
            congr 1
            rw [List.getElem?_eq_getElem hlt] at hq
            exact Option.some.inj hq
          obtain ⟨⟨f, K⟩, av, kv⟩ := q
          rw [hdrop] at hrow
          have hat := HI.out.rest ((f, K), (av, kv)) (by rw [hdrop]; exact List.mem_cons_self ..)
          simp only at hat
          obtain ⟨Aa, ca, rfl⟩ := hat.1.1.form
          obtain ⟨Ak, ck, rfl⟩ := hat.2.form
          have hfz := fun j => hrow.frozenAt j
          have hget := fun j hj => nodeVals_get done (ks.drop (done.length + 1)) ((f, K), (.slice Aa f.attrs.length ca, .slice Ak K.len ck)) j hj
          have hi4 : i * 4 + 3 < ks.length * 4 := by omega
          have p1 : wr.cell? ⟨gu, i * 4 + 1, none⟩ = some (.slice Aa f.attrs.length ca) := by
            have := hget 1 (by decide)
            rw [HIL.out] at this
            rw [hrow.cellAt _ (by omega), HIL.out]; exact this
          have p3 : wr.cell? ⟨gu, i * 4 + 3, none⟩ = some (.slice Ak K.len ck) := by
            have := hget 3 (by decide)
            rw [HIL.out] at this
            rw [hrow.cellAt _ (by omega), HIL.out]; exact this
          have z1 : wr.cell? ⟨gu, 0 + i * 4 + 1, none⟩ = some (.slice Aa f.attrs.length ca) := by rw [Nat.zero_add]; exact p1
          have hfw := HF.out (.slice (some ⟨gu, 0, none⟩) ks.length c5, ks) (by simp) (f, K) (List.mem_map.2 ⟨((f, K), (.slice Aa f.attrs.length ca, .slice Ak K.len ck)), List.mem_of_getElem? hq, rfl⟩)
          have HCA := hide (cloneA_any _ f.attrs wr hat.1.1 (by simpa [attrsFew] using hfw.1))
          have HROW := hide hrow
          have HQ := hide hq
          have HKL : Hid (K.len ≤ 1048576) := hide (by
            have h1 := Tr.len_count K
            have h2 := cntL_ge (ks.map Prod.fst)
            have h3 : K.count < cntL (ks.map Prod.fst) := by
              have h4 : (f, K) ∈ ks.map Prod.fst := List.mem_map.2 ⟨((f, K), (Value.slice Aa f.attrs.length ca, Value.slice Ak K.len ck)), List.mem_of_getElem? hq, rfl⟩
              exact cntL_mem h4
            have h5 := HCNT.out
            have h6 := HG2.out
            omega)
          clear hrow hget hdrop hfz
          have hBu : w.heap.size ≤ gu := (HROW.out.lt gu rfl).1
          go_wp2_with fail
          refine HCA.out.mono ?_
          rintro e w2 ⟨v1, rfl, hoa, hba⟩
          obtain ⟨Av, cv, hv1⟩ : ∃ Av cv, v1 = .slice Av f.attrs.length cv := by
            rcases hoa.2 with ⟨h0, h1⟩ | ⟨g, cap, cur, h0, _⟩
            · rw [h1]; exact ⟨_, _, h0⟩
            · exact ⟨_, _, h0⟩
          subst hv1
          have hr2 := HROW.out.kept (grown_none hba) (by simp [Value.ownBlock])
          obtain ⟨hr3, hg3⟩ := hr2.stored (done.length * 4 + 1) (.slice Av f.attrs.length cv)
          rw [nodeVals_set done (ks.drop (done.length + 1)) ((f, K), (.slice Aa f.attrs.length ca, .slice Ak K.len ck)) ((f, K), (.slice Av f.attrs.length cv, .slice Ak K.len ck)) 1 (.slice Av f.attrs.length cv) (by decide) rfl, HIL.out] at hr3
          have hg3' := hg3
          rw [HIL.out] at hg3'
          have zf1 : w2.frozen? ⟨gu, i * 4 + 1, none⟩ = false := hr2.frozenAt _
          have zc1 : w2.cell? ⟨gu, i * 4 + 1, none⟩ = some (.slice Aa f.attrs.length ca) := (World.cell?_of_block (hba.block gu (HROW.out.lt gu rfl).2)).trans p1
          have p3' : (w2.setCell ⟨gu, i * 4 + 1, none⟩ (.slice Av f.attrs.length cv)).cell? ⟨gu, i * 4 + 3, none⟩ = some (.slice Ak K.len ck) := by
            have := nodeVals_get done (ks.drop (i + 1)) ((f, K), (.slice Av f.attrs.length cv, .slice Ak K.len ck)) 3 (by decide)
            rw [HIL.out] at this
            rw [hr3.cellAt _ (by omega)]; exact this
          have hold3 : ∀ b, OldB w.heap.size b → (w2.setCell ⟨gu, i * 4 + 1, none⟩ (.slice Av f.attrs.length cv)).heap[b]? = wr.heap[b]? := keep_old (grown_then hba hg3') (Nat.le_trans HI.out.base HI.out.size) (fun k e => by injection e with e; omega)
          have hBw := Nat.le_trans HI.out.base HI.out.size
          have hsz3 : (w2.setCell ⟨gu, i * 4 + 1, none⟩ (.slice Av f.attrs.length cv)).heap.size = w2.heap.size := by simp [World.setCell]
          have HCN2 := hide (cloneN_any (OldB w.heap.size) (.slice Ak K.len ck) K (w2.setCell ⟨gu, i * 4 + 1, none⟩ (.slice Av f.attrs.length cv)) (hat.2.mono hold3 (fun _ x => x)) (fun b hb => Nat.lt_of_lt_of_le hb (by rw [hsz3]; exact Nat.le_trans hBw hba.size)) HKL.out)
          have HR3 := hide hr3
          have HG3 := hide hg3'
          have HOA := hide hoa
          have HBA := hide hba
          have HROW2 := hide hr2
          clear hr2 hr3 hg3 hg3' hoa hba hold3 hsz3
          go_wp2_with fail
          refine HCN2.out.mono ?_
          rintro e w4 ⟨v2, rfl, qs2, hkr, hqe, hb4⟩
          obtain ⟨A2, c2, hv2, _⟩ := hkr.slice
          subst hv2
          have hr4 := HR3.out.kept (grown_none hb4) (by simp [Value.ownBlock])
          obtain ⟨hr5, hg5⟩ := hr4.stored (done.length * 4 + 3) (.slice A2 qs2.length c2)
          rw [nodeVals_set done (ks.drop (i + 1)) ((f, K), (.slice Av f.attrs.length cv, .slice Ak K.len ck)) ((f, K), (.slice Av f.attrs.length cv, .slice A2 qs2.length c2)) 3 (.slice A2 qs2.length c2) (by decide) rfl] at hr5
          rw [HIL.out] at hr5 hg5
          have zf3 : w4.frozen? ⟨gu, i * 4 + 3, none⟩ = false := hr4.frozenAt _
          have zc3 : w4.cell? ⟨gu, i * 4 + 3, none⟩ = some (.slice Ak K.len ck) := (World.cell?_of_block (hb4.block gu (HR3.out.lt gu rfl).2)).trans p3'
          obtain ⟨W5, hW5⟩ : ∃ W5, W5 = w4.setCell ⟨gu, i * 4 + 3, none⟩ (.slice A2 qs2.length c2) := ⟨_, rfl⟩
          rw [← hW5] at hr5 hg5
          have hg05 : wr.grownBy W5 (some gu) := grown_same (grown_below (grown_then HBA.out HG3.out) hb4) hg5
          have hne2 : (Value.slice A2 qs2.length c2).ownBlock = none ∨ (Value.slice A2 qs2.length c2).ownBlock ≠ some gu := by
            refine .inr fun e => ?_
            have h1 := (hkr.row.lt gu e).1
            have h2 := (HR3.out.lt gu rfl).2
            omega
          have hkr5 : KRow (OldB w.heap.size) wr.heap.size (.slice A2 qs2.length c2) qs2 W5 := by
            have h5 := hkr.turned hg5 (fun k hk => Nat.lt_of_lt_of_le hk (Nat.le_trans hBw (Nat.le_trans HBA.out.size (Nat.le_trans HG3.out.size hb4.size)))) (fun k e hk => by injection e with e; unfold OldB at hk; omega) hne2
            exact ⟨ownsRow_down h5.row (Nat.le_trans HBA.out.size HG3.out.size), h5.each, h5.out⟩
          have hoa5 : W5.ownsRow wr.heap.size 41 2 (.slice Av f.attrs.length cv) f.attrs.length (atVals f.attrs) := by
            have o3 := HOA.out.kept HG3.out (ownsRow_diff (by decide) HOA.out HROW2.out)
            have o4 := o3.kept (grown_none hb4) (by cases hv : (Value.slice Av f.attrs.length cv).ownBlock <;> simp)
            exact o4.kept hg5 (ownsRow_diff (by decide) o4 hr4)
          have hleft5 : W5.ownsRow w.heap.size 22 1 (.slice A4 (n0 + i) c4) (P0 ++ N).length ((P0 ++ N).map Prod.fst) := by
            have hh := HI.out.left
            rw [HIL.out] at hh
            exact hh.kept hg05 (ownsRow_diff (by decide) hh HROW.out)
          have hpl : ((P0 ++ N).map Prod.fst).length = n0 + i := by rw [List.length_map, List.length_append, HN0.out, HI.out.nlen, HIL.out]
          have p5 : W5.cell? ⟨gu, i * 4 + 3, none⟩ = some (.slice A2 qs2.length c2) := by
            have := nodeVals_get done (ks.drop (i + 1)) ((f, K), (.slice Av f.attrs.length cv, .slice A2 qs2.length c2)) 3 (by decide)
            rw [HIL.out] at this
            rw [hr5.cellAt _ (by omega)]; exact this
          rw [hW5] at p5
          have hin : n0 + i + 1 ≤ 1073741824 := by omega
          have HLF : Hid ((W5.alloc (.cells #[.slice A2 qs2.length c2] 22)).ownsRow w.heap.size 22 1 (.slice A4 (n0 + i) c4) ((P0 ++ N).map Prod.fst).length ((P0 ++ N).map Prod.fst)) := hide (by rw [List.length_map]; exact hleft5.alloc _)
          have HNX : Hid (∀ lv' w6, w6.ownsRow w.heap.size 22 1 lv' (((P0 ++ N).map Prod.fst).length + 1) ((P0 ++ N).map Prod.fst ++ [.slice A2 qs2.length c2]) → (W5.alloc (.cells #[.slice A2 qs2.length c2] 22)).grownBy w6 (Value.slice A4 (n0 + i) c4).ownBlock →
              CI w.heap.size (.slice (some ⟨gu, 0, none⟩) ks.length c5) P0 ks lv' (done ++ [((f, K), (.slice Av f.attrs.length cv, .slice A2 qs2.length c2))]) (N ++ [(.slice A2 qs2.length c2, qs2)]) wx w6) := hide (fun lv' w6 ho hg => by
            have hh := HI.out
            rw [HIL.out] at hh
            refine hh.next (by rw [HIL.out]; exact HQ.out) hg05 (by rw [HIL.out, List.append_assoc]; exact hr5) hoa5 hkr5 hqe (by rw [List.length_map] at ho; exact ho) (grown_then (below_one _ _) hg))
          have HSZ5 : Hid (w.heap.size ≤ W5.heap.size) := hide (Nat.le_trans hBw hg05.size)
          have HW5 := hide hW5
          have HQE := hide hqe
          clear hr4 hr5 hg5 hW5 hg05 hne2 hkr5 hoa5 hleft5 hkr hb4 hqe p3' zf1 zc1
          have hszw : W5.heap.size = w4.heap.size := by rw [HW5.out]; simp [World.setCell]
          have HCL5 : Hid ((W5.alloc (.cells #[.slice A2 qs2.length c2] 22)).cell? ((⟨w4.heap.size, 0, none⟩ : Addr).add 0) = some (.slice A2 qs2.length c2)) := hide (by rw [← hszw]; rw [Addr.add_zero', Lib.cell_of_heap (heap_alloc_new W5 _)]; rfl)
          have HS5 : Hid (w.heap.size ≤ (W5.alloc (.cells #[.slice A2 qs2.length c2] 22)).heap.size) := hide (by rw [World.size_alloc]; have := HSZ5.out; omega)
          have hW5b := HW5.out
          clear HW5 hszw
          subst hW5b
          go_wp2_with (at_builtin; (refine wpList_row1 rfl _ _ rfl w.heap.size (.slice A4 (n0 + i) c4) ((P0 ++ N).map Prod.fst) rfl HLF.out HS5.out _ (.slice A2 qs2.length c2) rfl HCL5.out rfl (by rw [hpl]; exact hin) ?_)
                       intro lv' w6 ho6 hg6
                       have HC6 := hide (HNX.out lv' w6 ho6 hg6)
                       obtain ⟨A6, c6, hl6⟩ : ∃ A c, lv' = .slice A (n0 + (i + 1)) c := by
                         rw [hpl] at ho6
                         rcases ho6.2 with ⟨h0, h1⟩ | ⟨g, cap, cur, h0, _⟩
                         · omega
                         · exact ⟨_, _, h0⟩
                       subst hl6
                       clear ho6 hg6)
          have hdl2 : (done ++ [(((f, K), (Value.slice Av f.attrs.length cv, Value.slice A2 qs2.length c2)) : KidV)]).length = i + 1 := by rw [List.length_append, HIL.out]; rfl
          have HNM2 : Hid (∀ p ∈ N ++ [((Value.slice A2 qs2.length c2, qs2) : PendV)], ∃ q ∈ done ++ [(((f, K), (Value.slice Av f.attrs.length cv, Value.slice A2 qs2.length c2)) : KidV)], p.2.map Prod.fst = q.1.2.list) := hide (fun p hp => by
            rcases List.mem_append.1 hp with hp | hp
            · obtain ⟨z, hz, e⟩ := HNM.out p hp
              exact ⟨z, List.mem_append.2 (.inl hz), e⟩
            · rw [List.mem_singleton] at hp
              subst hp
              exact ⟨_, List.mem_append.2 (.inr (List.mem_singleton.2 rfl)), HQE.out⟩)
          have HDL2 := hide hdl2
          clear hdl2
          go_roundw
          case rel => exact ⟨_, _, A6, c6, by rw [HDL2.out], by rw [HDL2.out]; go_num, by rw [HDL2.out]; omega, hide (by rw [HDL2.out]; exact HC6.out), HNM2⟩
          case measure => simp [intOf]; omega
        · obtain rfl : i = ks.length := by omega
          have HO2 : Hid (CO w.heap.size (w1.heap.size + 1) (.slice A1 qs.length c1) T (.slice A4 (n0 + ks.length) c4) (P0 ++ N) w wr) := hide (by
            have h := HI.out.shut HIL.out HO.out.wand HO.out.below
            rw [HIL.out] at h; exact h)
          have hPN : (P0 ++ N).length = n0 + ks.length := by rw [List.length_append, HN0.out, HI.out.nlen, HIL.out]
          have HF2 : Hid (FewP (P0 ++ N)) := hide (HI.out.few HF.out HNM.out)
          have HG3 : Hid (gk = cntP (P0 ++ N) + 1) := hide (by
            have h1 := HI.out.fst
            rw [HIL.out, List.take_length] at h1
            rw [cntP_append, HI.out.cnt, h1, HCNT.out]; omega)
          have HPN := hide hPN
          clear hPN
          go_wp2_with fail
          go_roundg (cntP (P0 ++ N))
          case rel => exact ⟨P0 ++ N, A4, c4, by rw [HPN.out], hide rfl, hide (by have := HG3.out; have := HG2.out; omega), hide (by rw [HPN.out]; exact HO2.out), HF2⟩
          case measure => have := HG3.out; omega
end Go.Proofs.YtjaeheicndfdnaaDoor
