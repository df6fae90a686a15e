/- WALK of fold.Fold. No statement is proved here. Own work of the verifier. -/
import Derived.Test.YtjaeheicndfdnaaDoorFoldD
import Derived.Test.YtjaeheicndfdnaaDoorFoldW
import Derived.Deep.RegionHeld
namespace Go.Proofs.YtjaeheicndfdnaaDoor
open Go.RowKit
set_option linter.unusedVariables false
set_option linter.unusedSimpArgs false
set_option maxRecDepth 100000
/-- append(l, t...) where t is given, at a step of a region that draws its order -/
theorem step_nodes {ops : Array Oper} {o : Oper} {a : Act} {w : World} {K : Act → World → Prop} {Q : Exit → Act → World → Prop} {E : Prop} (hgd : o.guard = none) (s x : Operand)
    (ho : o.op = .call { callee := .builtin .append, args := #[s, x], argTypes := #[22, 22] })
    (C : Nat → Prop) (B : Nat) (v : Value) (ks : List KidV) (hs : a.eval s = v) (hk : KRow C B v ks w) (hC : ∀ k, C k → k < w.heap.size) (hB : B ≤ w.heap.size)
    (u : Value) (hx : a.eval x = u) (T : Tr) (hu : NodesC C w u T) (hlen : ks.length + T.len ≤ 1073741824)
    (h : ∀ v' qs w', KRow C B v' (ks ++ qs) w' → qs.map Prod.fst = T.list → w.grownBy w' v.ownBlock → (v'.ownBlock = v.ownBlock ∨ v'.ownBlock = some w.heap.size) → K (a.put o.dst v') w') :
    if Region.wanted o (yielded ops a.tmps) = true then Oper.wp Tryd.prog o a w K Q else E := by
  have hw : Region.wanted o (yielded ops a.tmps) = true := by simp [Region.wanted, hgd]
  rw [if_pos hw]
  obtain ⟨i0, hi, hz0, hz1, hz2⟩ := info_parts info_nd14
  rcases hu with ⟨rfl, rfl⟩ | ⟨ad, cap, rfl, hl1, hl2, hat⟩
  · obtain ⟨A, c, hv, hnc⟩ := hk.slice
    have hr := run_append_none w o.type A ks.length c hnc
    rw [← hv] at hr
    unfold Oper.wp execOp
    simp only [ho, resolve, invoke, builtin, Sem.run_bind, Sem.run_pure, Result.andThen_ok, List.map_toArray, List.map_cons, List.map_nil, hs, hx, hr]
    exact h v [] w (by rw [List.append_nil]; exact hk) rfl ⟨rfl, rfl, rfl, Nat.le_refl _, fun _ _ _ => rfl⟩ (.inl rfl)
  · obtain ⟨qs, e1, e2, e3⟩ := nodesAt_vals hat
    have hql : qs.length = T.len := by rw [← Tr.len_list, ← e1, List.length_map]
    refine wp_append_own2 _ s x 22 ho B 32 i0 (.agg #[.string ByteArray.empty, .slice none 0 0, .string ByteArray.empty, .slice none 0 0]) 4 80 Tryd.underlying22 hi hz0 hz1 hz2 rfl (by decide) v ks.length (nodeVals ks) hs hk.row ad T.len cap (nodeVals qs) hx (by rw [nodeVals_length, hql]) e2 (nodeVals_one qs fun q hq => ⟨attrsC_one (e3 q hq).1, nodesC_one (e3 q hq).2⟩) (by unfold maxLen; omega) (by omega) hB ?_
    intro v' w' ho' hg hor
    refine h v' qs w' ⟨by rw [nodeVals_append, List.length_append, hql]; exact ho', fun q hq => ?_, fun g hg2 hCg => ?_⟩ e1 hg hor
    · have hkk : ∀ b, C b → w'.heap[b]? = w.heap[b]? := fun b hb => hg.block b (hC b hb) (fun e => hk.out b e.symm hb)
      rcases List.mem_append.1 hq with hq | hq
      · exact ⟨(hk.each q hq).1.mono hkk (fun _ x => x), (hk.each q hq).2.mono hkk (fun _ x => x)⟩
      · exact ⟨(e3 q hq).1.mono hkk (fun _ x => x), (e3 q hq).2.mono hkk (fun _ x => x)⟩
    · rcases hor with e | e
      · exact hk.out g (by rw [← e]; exact hg2) hCg
      · rw [e] at hg2
        injection hg2 with hg2
        exact absurd (hC g hCg) (by omega)
/-! ### parts of a tree -/
theorem nodesAt_take {C : Nat → Prop} {w : World} (p : Nat) {T : Tr} {a : Addr} (h : NodesAt C w T a) : NodesAt C w (Tr.of (T.list.take p)) a := by
  induction T generalizing a p with
  | nil => rw [Tr.list, List.take_nil]; trivial
  | cons f K R _ ih =>
    cases p with
    | zero => trivial
    | succ p =>
      obtain ⟨h0, h1, h2, h3, h4, h5⟩ := h
      exact ⟨h0, h1, h2, h3, h4, ih p h5⟩
theorem nodes_take {C : Nat → Prop} {w : World} {A : Option Addr} {n c p : Nat} {T : Tr} (h : NodesC C w (.slice A n c) T) (hp : p ≤ T.len) : NodesC C w (.slice A p c) (Tr.of (T.list.take p)) := by
  have hl : (Tr.of (T.list.take p)).len = p := by rw [Tr.len_of, List.length_take, Tr.len_list]; omega
  rcases h with ⟨h1, rfl⟩ | ⟨a, cap, h1, h2, h3, h4⟩
  · injection h1 with e1 e2 e3
    have : p = 0 := by simpa [Tr.len] using hp
    subst this e1 e3
    exact .inl ⟨rfl, rfl⟩
  · injection h1 with e1 e2 e3
    subst e1 e3
    exact .inr ⟨a, c, by rw [hl], by rw [hl]; omega, h3, nodesAt_take p h4⟩
theorem nodes_drop {C : Nat → Prop} {w : World} {a : Addr} {n c p : Nat} {T : Tr} (h : NodesC C w (.slice (some a) n c) T) (hp : p ≤ T.len) : NodesC C w (.slice (some (a.add (p * 4))) (n - p) (c - p)) (Tr.drop p T) := by
  rcases h with ⟨h1, rfl⟩ | ⟨a', cap, h1, h2, h3, h4⟩
  · cases h1
  · injection h1 with e1 e2 e3
    injection e1 with e1
    subst e1 e2 e3
    exact .inr ⟨_, c - p, by rw [Tr.drop_len], by rw [Tr.drop_len]; omega, by omega, h4.drop p hp⟩
def foldH : NdH := ⟨[100, 105, 118], [([116, 105, 116, 108, 101], [113, 117, 111, 116, 101, 100])], []⟩
/-- Fold -/
def foldT (T : Tr) : Tr := if (whereP (T.list.map Prod.fst)).2 = true then Tr.of (T.list.take (whereP (T.list.map Prod.fst)).1 ++ [(foldH, Tr.drop (whereP (T.list.map Prod.fst)).1 T)]) else T
theorem whereG_le (D : List NdH) : ∀ (k : Nat) (s : Nat × Bool) (m : Nat), k ≤ m → s.1 ≤ m → (whereG D k s).1 ≤ m
  | 0, s, m, _, _ => Nat.zero_le _
  | k + 1, s, m, hk, hs => by
    simp only [whereG]
    split
    · exact whereG_le D k _ m (by omega) (by show k ≤ m; omega)
    · split
      · exact whereG_le D k s m (by omega) hs
      · exact hs
theorem whereP_le (D : List NdH) : (whereP D).1 ≤ D.length := whereG_le D _ _ _ (Nat.le_refl _) (Nat.zero_le _)
theorem whereG_lt (D : List NdH) : ∀ (k : Nat) (s : Nat × Bool) (m : Nat), k ≤ m → (s.2 = true → s.1 < m) → (whereG D k s).2 = true → (whereG D k s).1 < m
  | 0, s, m, _, _, h => by cases h
  | k + 1, s, m, hk, hs, h => by
    simp only [whereG] at h ⊢
    split at h
    · rename_i h1
      rw [if_pos h1]
      exact whereG_lt D k _ m (by omega) (fun _ => by show k < m; omega) h
    · rename_i h1
      rw [if_neg h1]
      split at h
      · rename_i h2
        rw [if_pos h2]
        exact whereG_lt D k s m (by omega) hs h
      · rename_i h2
        rw [if_neg h2]
        exact hs h
theorem whereP_lt (D : List NdH) (h : (whereP D).2 = true) : (whereP D).1 < D.length := whereG_lt D _ _ _ (Nat.le_refl _) (fun h => by cases h) h
theorem app_all (f : NdH → Bool) (a b : Tr) : (a.app b).all f = (a.all f && b.all f) := by induction a with
  | nil => simp [Tr.app, Tr.all]
  | cons h K R _ ih => simp only [Tr.app, Tr.all, ih, Bool.and_assoc]
theorem app_count (a b : Tr) : (a.app b).count = a.count + b.count := by induction a with
  | nil => simp [Tr.app, Tr.count]
  | cons h K R _ ih => simp only [Tr.app, Tr.count, ih]; omega
theorem cut_app (p : Nat) (T : Tr) : (Tr.of (T.list.take p)).app (Tr.drop p T) = T := by
  apply Tr.list_inj
  rw [Tr.list_app, Tr.list_of, Tr.list_drop, List.take_append_drop]
set_option maxHeartbeats 4000000 in
/-- folded -/
theorem folded_any (A : Option Addr) (n c : Nat) (w : World) :
    Calls Tryd.prog 26 #[.slice A n c] w fun e w' => ∃ g, e = .returned (.agg #[.string ⟨#[100, 105, 118]⟩, .slice (some ⟨g, 0, none⟩) 1 1, .string ⟨#[]⟩, .slice A n c]) ∧ w'.heap[g]? = some (.cells (atVals foldH.attrs).toArray 41 (0, 0)) ∧ w.heap.size ≤ g ∧ Below w.heap.size w w' := by
  have h2 : (atVals foldH.attrs).toArray = #[.string ⟨#[116, 105, 116, 108, 101]⟩, .string ⟨#[113, 117, 111, 116, 101, 100]⟩] := rfl
  rw [h2]
  go_enter Tryd.func26, Tryd.ntmps26
  go_wp2_with fail
  obtain ⟨Wa, hWa⟩ : ∃ Wa, Wa = w.alloc (.cells #[.string ⟨#[100, 105, 118]⟩, .slice (some ⟨w.heap.size + 1, 0, none⟩) 1 1, .string ⟨#[]⟩, .slice A n c] 32) := ⟨_, rfl⟩
  have hsz : Wa.heap.size = w.heap.size + 1 := by rw [hWa, World.size_alloc]
  have b0 : (Wa.alloc (.cells #[.string ⟨#[116, 105, 116, 108, 101]⟩, .string ⟨#[113, 117, 111, 116, 101, 100]⟩] 41)).heap[w.heap.size]? = some (.cells #[.string ⟨#[100, 105, 118]⟩, .slice (some ⟨w.heap.size + 1, 0, none⟩) 1 1, .string ⟨#[]⟩, .slice A n c] 32 (0, 0)) := by
    rw [show (Wa.alloc (.cells #[.string ⟨#[116, 105, 116, 108, 101]⟩, .string ⟨#[113, 117, 111, 116, 101, 100]⟩] 41)).heap[w.heap.size]? = Wa.heap[w.heap.size]? from (below_one Wa _).block _ (by omega), hWa]; exact heap_alloc_new w _
  have b1 : (Wa.alloc (.cells #[.string ⟨#[116, 105, 116, 108, 101]⟩, .string ⟨#[113, 117, 111, 116, 101, 100]⟩] 41)).heap[w.heap.size + 1]? = some (.cells #[.string ⟨#[116, 105, 116, 108, 101]⟩, .string ⟨#[113, 117, 111, 116, 101, 100]⟩] 41 (0, 0)) := by
    rw [← hsz]; exact heap_alloc_new Wa _
  have hb : Below w.heap.size w (Wa.alloc (.cells #[.string ⟨#[116, 105, 116, 108, 101]⟩, .string ⟨#[113, 117, 111, 116, 101, 100]⟩] 41)) := bl_two (by rw [hWa]; exact below_one w _) (below_one Wa _)
  rw [← hWa]
  refine bodyPost_ret (results_cell_row rfl _ _ w.heap.size _ _ _ _ rfl b0 Tryd.underlying32 rfl (by kernel_rfl)) rfl ?_
  exact ⟨w.heap.size + 1, rfl, b1, Nat.le_succ _, hb⟩
def AwayB (w : World) (v : Value) : Nat → Prop := fun b => b < w.heap.size ∧ v.ownBlock ≠ some b
theorem fold_ready {B S1 S2 n1 c1 c2 gf : Nat} {A1 A2 : Option Addr} {ks1 ks2 : List KidV} {wa wb wc : World} (hk1 : KRow (NewB S1 wa) B (.slice A1 n1 c1) ks1 wa) (hk2 : KRow (NewB S2 wb) wa.heap.size (.slice A2 ks2.length c2) ks2 wb) (hS2 : wa.heap.size ≤ S2) (hb2 : Below wa.heap.size wa wb)
    (hgf : wc.heap[gf]? = some (.cells (atVals foldH.attrs).toArray 41 (0, 0))) (hg : wb.heap.size ≤ gf) (hb3 : Below wb.heap.size wb wc) :
    KRow (AwayB (wc.alloc (.cells #[.string ⟨#[100, 105, 118]⟩, .slice (some ⟨gf, 0, none⟩) 1 1, .string ⟨#[]⟩, .slice A2 ks2.length c2] 32)) (.slice A1 n1 c1)) B (.slice A1 n1 c1) ks1 (wc.alloc (.cells #[.string ⟨#[100, 105, 118]⟩, .slice (some ⟨gf, 0, none⟩) 1 1, .string ⟨#[]⟩, .slice A2 ks2.length c2] 32)) ∧
    NodesC (AwayB (wc.alloc (.cells #[.string ⟨#[100, 105, 118]⟩, .slice (some ⟨gf, 0, none⟩) 1 1, .string ⟨#[]⟩, .slice A2 ks2.length c2] 32)) (.slice A1 n1 c1)) (wc.alloc (.cells #[.string ⟨#[100, 105, 118]⟩, .slice (some ⟨gf, 0, none⟩) 1 1, .string ⟨#[]⟩, .slice A2 ks2.length c2] 32)) (.slice (some ⟨wc.heap.size, 0, none⟩) 1 1) (.cons foldH (Tr.of (ks2.map Prod.fst)) .nil) := by
  obtain ⟨W, hW⟩ : ∃ W, W = wc.alloc (.cells #[.string ⟨#[100, 105, 118]⟩, .slice (some ⟨gf, 0, none⟩) 1 1, .string ⟨#[]⟩, .slice A2 ks2.length c2] 32) := ⟨_, rfl⟩
  rw [← hW]
  have hbW : Below wc.heap.size wc W := by rw [hW]; exact below_one wc _
  have hzW : W.heap.size = wc.heap.size + 1 := by rw [hW, World.size_alloc]
  have hblk : W.heap[wc.heap.size]? = some (.cells #[.string ⟨#[100, 105, 118]⟩, .slice (some ⟨gf, 0, none⟩) 1 1, .string ⟨#[]⟩, .slice A2 ks2.length c2] 32 (0, 0)) := by rw [hW]; exact heap_alloc_new wc _
  have hgl : gf < wc.heap.size := lt_of_block hgf
  have h1 := hb2.size
  have h2 := hb3.size
  have hbaW : Below wa.heap.size wa W := bl_two (bl_two hb2 hb3) hbW
  have hbbW : Below wb.heap.size wb W := bl_two hb3 hbW
  have hown1 : ∀ k, (Value.slice A1 n1 c1).ownBlock = some k → k < wa.heap.size := fun k e => (hk1.row.lt k e).2
  constructor
  · exact (hk1.kept (fun k hk => hk.2) hbaW).widen (fun b hb => ⟨by have := hb.2; omega, fun e => hk1.out b e hb⟩) (fun g e hg2 => hg2.2 e)
  · have hA : AttrsC (AwayB W (.slice A1 n1 c1)) W (.slice (some ⟨gf, 0, none⟩) 1 1) foldH.attrs := by
      refine ⟨attrs_lit foldH.attrs ((hbW.block gf hgl).trans hgf) (by decide), fun a n c e _ => ?_⟩
      injection e with e _ _
      injection e with e
      subst e
      exact ⟨by show gf < _; omega, fun e => by have h3 := hown1 _ e; simp only at h3; omega⟩
    have hN : NodesC (AwayB W (.slice A1 n1 c1)) W (.slice A2 ks2.length c2) (Tr.of (ks2.map Prod.fst)) := by
      have h3 := hk2.kept (fun k hk => hk.2) hbbW
      refine h3.nodes (fun b hb => ⟨by have := hb.2; omega, fun e => by have h4 := hown1 b e; have h5 := hb.1; omega⟩) (fun k e => ⟨by have := (hk2.row.lt k e).2; omega, fun e2 => by have h4 := hown1 k e2; have h5 := (hk2.row.lt k e).1; omega⟩)
    have hAt : NodesAt (AwayB W (.slice A1 n1 c1)) W (.cons foldH (Tr.of (ks2.map Prod.fst)) .nil) ⟨wc.heap.size, 0, none⟩ :=
      ⟨⟨by show wc.heap.size < _; omega, fun e => by have h4 := hown1 _ e; simp only at h4; omega⟩, (Lib.cell_of_heap hblk 0).trans rfl, (Lib.cell_of_heap hblk 2).trans rfl, ⟨_, (Lib.cell_of_heap hblk 1).trans rfl, hA⟩, ⟨_, (Lib.cell_of_heap hblk 3).trans rfl, hN⟩, trivial⟩
    exact .inr ⟨⟨wc.heap.size, 0, none⟩, 1, rfl, Nat.le_refl _, by decide, hAt⟩
end Go.Proofs.YtjaeheicndfdnaaDoor
