/- WALKS of htok's reader: what it has gathered as text, told and emptied; a token added. No statement is proved here. Own work of the verifier. -/
import Derived.Test.YtmojckphfbcibaaGreatDoorBaseN
import Derived.Lib.UnsafeStr
import Derived.BigRegion
import Derived.Deep.RegionWith
namespace Go.Proofs.YtmojckphfbcibaaGreatDoor
open Go.RowKit
set_option linter.unusedVariables false
set_option linter.unusedSimpArgs false
set_option maxRecDepth 100000
theorem freeze_other (w : World) (g n k : Nat) (h : k ≠ g) : (w.freeze ⟨g, 0, none⟩ n).heap[k]? = w.heap[k]? := by
  unfold World.freeze
  split
  · rfl
  · simp [Array.getElem?_modify, Ne.symm h]
theorem freeze_size (w : World) (g n : Nat) : (w.freeze ⟨g, 0, none⟩ n).heap.size = w.heap.size := by
  unfold World.freeze
  split <;> simp
theorem RowsK.freeze {w : World} {g n cap : Nat} {cur : Array Value} (hg : w.heap[g]? = some (.cells cur 5 (0, 0))) : RowsK w (w.freeze ⟨g, 0, none⟩ n) := fun B e sz m x xs h1 _ hx =>
  hx.kept (row := some g) ⟨by unfold World.freeze; split <;> rfl, by unfold World.freeze; split <;> rfl, by unfold World.freeze; split <;> rfl, by rw [freeze_size]; exact Nat.le_refl _, fun k _ hk => freeze_other w g n k (fun e => hk (by rw [e]))⟩ (.inr (ownsRow_other hx (fun cur' hc => by
    rw [hg] at hc
    injection hc with hc
    injection hc with _ hc
    exact h1 hc.symm)))
/-- a reader whose text is told, and not emptied yet -/
def RdrS (B b : Nat) (o : Value) (vs : List TokV) (W0 w : World) : Prop := (∃ a v, RdC w b o a v) ∧ TRow B o vs w ∧ B ≤ b ∧ Below B W0 w ∧ B ≤ w.heap.size
set_option maxHeartbeats 2000000 in
theorem stringR_any (B b : Nat) (o : Value) (vs : List TokV) (x : List UInt8) (W0 w : World) (h : Rdr B b o vs x W0 w) (h0 : x ≠ []) :
    Calls Tryz.prog 34 #[.pointer (some ⟨b, 1, none⟩)] w fun e w' => e = .returned (.string (str x)) ∧ RdrS B b o vs W0 w' ∧ w.heap.size ≤ w'.heap.size ∧ (∀ (k : Nat), (∀ (cur : Array Value) (fr : Nat × Nat), w.heap[k]? ≠ some (Obj.cells cur 5 fr)) → w'.heap[k]? = w.heap[k]?) := by
  obtain ⟨⟨a, v, h1, h2, h3, h4⟩, ht, hB, hW, hz⟩ := h
  have hl0 : x.length ≠ 0 := by simpa using h0
  obtain ⟨g, cap, cur, rfl, hbg, hg, hnc, hcm, hcs, htake⟩ : ∃ g cap cur, v = .slice (some ⟨g, 0, none⟩) x.length cap ∧ B ≤ g ∧ w.heap[g]? = some (.cells cur 5 (0, 0)) ∧ x.length ≤ cap ∧ cap ≤ maxLen ∧ cur.size = cap * 1 ∧ cur.toList.take (x.length * 1) = cellsOf x := by
    rcases h3.2 with ⟨_, hz⟩ | ⟨g, cap, cur, hv, r⟩
    · exact absurd hz hl0
    · exact ⟨g, cap, cur, hv, r⟩
  have hgb : g ≠ b := fun e => h4 (by rw [e]; rfl)
  have c2 : w.cell? ⟨b, 2, none⟩ = some (.slice (some ⟨g, 0, none⟩) x.length cap) := h1.cell2
  have c2d : w.drew.cell? ⟨b, 2, none⟩ = some (.slice (some ⟨g, 0, none⟩) x.length cap) := c2
  have hSD : (Builtin.unsafeSliceData_ #[36] 81 #[.slice (some ⟨g, 0, none⟩) x.length cap]).run Tryz.prog w.drew = .ok (.pointer (some ⟨g, 0, none⟩)) w.drew :=
    Lib.run_unsafeSliceData_row _ _ _ _ _ _ (by omega)
  have hUS : (Builtin.unsafeString_ #[81, 3] 9 #[.pointer (some ⟨g, 0, none⟩), .int .i64 x.length]).run Tryz.prog w.drew = .ok (.string (str x)) (w.drew.freeze ⟨g, 0, none⟩ x.length) := by
    refine Lib.run_unsafeString_row w.drew 81 3 9 5 Tryz.underlying81 (by kernel_rfl) g cur.size (by have hg' : w.drew.heap[g]? = some (.cells cur 5 (0, 0)) := hg; simp [World.shape?, hg']) x h0 (by omega) (by unfold maxLen at hcm; omega) ?_
    intro j y hy
    exact h3.cells (g := g) rfl j (.int .u8 y.toNat) (by simp [cellsOf, hy])
  have HKK : Hid (w.heap.size ≤ (w.drew.freeze ⟨g, 0, none⟩ x.length).heap.size ∧ (∀ (k : Nat), (∀ (cur : Array Value) (fr : Nat × Nat), w.heap[k]? ≠ some (Obj.cells cur 5 fr)) → (w.drew.freeze ⟨g, 0, none⟩ x.length).heap[k]? = w.heap[k]?)) := hide (by
    refine ⟨by rw [freeze_size]; exact Nat.le_refl _, fun k hk => ?_⟩
    exact freeze_other w.drew g x.length k (fun e => hk cur (0, 0) (by rw [e]; exact hg)))
  have HS : Hid (RdrS B b o vs W0 (w.drew.freeze ⟨g, 0, none⟩ x.length)) := hide (by
    have hgd : w.drew.heap[g]? = some (.cells cur 5 (0, 0)) := hg
    have htd : TRow B o vs w.drew := ⟨ht.row, ht.each⟩
    refine ⟨⟨a, _, (freeze_other w.drew g x.length b (Ne.symm hgb)).trans h1⟩, htd.rows (RowsK.freeze (cap := cap) hgd), hB, Lib.below_freeze hW.drew (p := ⟨g, 0, none⟩) hbg _, ?_⟩
    rw [freeze_size]
    exact hz)
  clear h1 h2 h3 h4 ht hB hW hz hg hcs htake hnc hcm hbg hgb h0
  go_enter Tryz.func34, Tryz.ntmps34
  go_wp2_with fail
  go_region
  all_goals
    try go_wp2_with fail
    go_ret
    exact ⟨rfl, HS.out, HKK.out⟩
set_option maxHeartbeats 1000000 in
theorem resetR_any (B b : Nat) (o : Value) (vs : List TokV) (W0 w : World) (h : RdrS B b o vs W0 w) :
    Calls Tryz.prog 52 #[.pointer (some ⟨b, 1, none⟩)] w fun e w' => e = .returned (.tuple #[]) ∧ Rdr B b o vs [] W0 w' ∧ w.heap.size ≤ w'.heap.size ∧ ∀ (k : Nat), k ≠ b → w'.heap[k]? = w.heap[k]? := by
  obtain ⟨⟨a, v, h1⟩, ht, hB, hW, hz⟩ := h
  have f1 := h1.free 1
  have c1 := h1.cell1
  have k1 := h1.put1 (.pointer none)
  have f2 := k1.free 2
  have d2 := k1.cell2
  have HR : Hid (Rdr B b o vs [] W0 ((w.setCell ⟨b, 1, none⟩ (.pointer none)).setCell ⟨b, 2, none⟩ (.slice none 0 0))) := hide
    ⟨⟨_, _, k1.put2 _, .inl rfl, World.ownsRow_nil _ B _ 1, by simp [Value.ownBlock]⟩, ht.rows ((RowsK.put h1 1 _).trans (RowsK.put k1 2 _)), hB, (hW.setCell (p := ⟨b, 1, none⟩) hB _).setCell (p := ⟨b, 2, none⟩) hB _, by simpa [World.setCell] using hz⟩
  have HK : Hid (w.heap.size ≤ ((w.setCell ⟨b, 1, none⟩ (.pointer none)).setCell ⟨b, 2, none⟩ (.slice none 0 0)).heap.size ∧ ∀ k, k ≠ b → ((w.setCell ⟨b, 1, none⟩ (.pointer none)).setCell ⟨b, 2, none⟩ (.slice none 0 0)).heap[k]? = w.heap[k]?) := hide
    ⟨by simp [World.setCell], fun k hk => (Below.heap_setCell _ _ _ k (fun e => hk (by rw [e]))).trans (Below.heap_setCell _ _ _ k (fun e => hk (by rw [e])))⟩
  clear h1 ht hB hW hz k1
  go_enter Tryz.func52, Tryz.ntmps52
  go_wp2_with fail
  go_end0
  exact ⟨rfl, HR.out, HK.out⟩
/-- append(l, t) at a step of a region that draws its order -/
theorem step_toks {ops : Array Oper} {o : Oper} {a : Act} {w : World} {K : Act → World → Prop} {Q : Exit → Act → World → Prop} {E : Prop} (hgd : o.guard = none) (s x : Operand)
    (ho : o.op = .call { callee := .builtin .append, args := #[s, x], argTypes := #[24, 24] })
    (B : Nat) (v : Value) (ls : List TokV) (hs : a.eval s = v) (t : TokL) (u : Value) (hb : TRow B v ls w) (hu : w.ownsRow B 35 2 u t.attrs.length (atVals t.attrs)) (hB : B ≤ w.heap.size) (ad : Addr)
    (hx : a.eval x = .slice (some ad) 1 1) (h0 : w.cell? (ad.add 0) = some (.int .i64 (t.kind : Int))) (h1 : w.cell? (ad.add 1) = some (.string (str t.name))) (h2 : w.cell? (ad.add 2) = some u) (h3 : w.cell? (ad.add 3) = some (.string (str t.text)))
    (hlen : ls.length + 1 ≤ 2199023255552)
    (h : ∀ v' w', TRow B v' (ls ++ [(t, u)]) w' → w.grownBy w' v.ownBlock → K (a.put o.dst v') w') :
    if Region.wanted o (yielded ops a.tmps) = true then Oper.wp Tryz.prog o a w K Q else E := by
  have hw : Region.wanted o (yielded ops a.tmps) = true := by simp [Region.wanted, hgd]
  rw [if_pos hw]
  obtain ⟨i0, hi, hz0, hz1, hz2⟩ := info_parts info_tok
  obtain ⟨A, c, rfl⟩ : ∃ A c, u = .slice A t.attrs.length c := by
    rcases hu.2 with ⟨rfl, h0⟩ | ⟨g, cap, cur, rfl, _⟩
    · rw [h0]; exact ⟨_, _, rfl⟩
    · exact ⟨_, _, rfl⟩
  refine wp_append_own _ s x 24 ho B 32 i0 (.agg #[.int .i64 0, .string ByteArray.empty, .slice none 0 0, .string ByteArray.empty]) 4 64 Tryz.underlying24 hi hz0 hz1 hz2 rfl (by decide) v ls.length (tokVals ls) hs hb.row ad 1 1 (tokVals [(t, .slice A t.attrs.length c)]) hx rfl ?_ ?_ (by unfold maxLen; omega) (by omega) hB ?_
  · intro j u hj
    match j, hj with
    | 0, hj => simp [tokVals] at hj; subst hj; exact h0
    | 1, hj => simp [tokVals] at hj; subst hj; exact h1
    | 2, hj => simp [tokVals] at hj; subst hj; exact h2
    | 3, hj => simp [tokVals] at hj; subst hj; exact h3
    | (j + 4), hj => simp [tokVals] at hj
  · intro u hu
    simp [tokVals] at hu
    rcases hu with rfl | rfl | rfl | rfl <;> rfl
  · intro v' w' ho' hg _
    exact h v' w' (hb.push hu ho' hg) hg
end Go.Proofs.YtmojckphfbcibaaGreatDoor
