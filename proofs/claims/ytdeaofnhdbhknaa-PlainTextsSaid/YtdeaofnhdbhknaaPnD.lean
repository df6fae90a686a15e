/- WALK of plain.said. Written by wip/tools/pnd.py. No statement is proved here. Own work of the verifier. -/
import Derived.Test.YtdeaofnhdbhknaaPnB
namespace Go.Proofs.Ytdeaofnhdbhknaa
open Go.RowKit
set_option linter.unusedVariables false
set_option linter.unusedSimpArgs false
set_option maxRecDepth 100000
/-- made since B, and not the row's own block -/
def RowC (B : Nat) (v : Value) (w : World) : Nat → Prop := fun b => B ≤ b ∧ b < w.heap.size ∧ v.ownBlock ≠ some b
def FreshB (B : Nat) (w : World) : Nat → Prop := fun b => B ≤ b ∧ b < w.heap.size
theorem attrsC_none (C : Nat → Prop) (w : World) : AttrsC C w (.slice none 0 0) [] := ⟨.inl ⟨rfl, rfl⟩, fun a n c e _ => by cases e⟩
theorem nodesC_none (C : Nat → Prop) (w : World) : NodesC C w (.slice none 0 0) .nil := .inl ⟨rfl, rfl⟩
def ndObj (n t : List UInt8) (u : Value) : Obj := .cells #[.string (str n), .slice none 0 0, .string (str t), u] 36
/-- a node is laid, ready to be appended -/
theorem pn_ready {B : Nat} {v u2 : Value} {ks : List KidV} {wr w5 : World} (n t : List UInt8) {K : Tr} (hk : KRow (RowC B v wr) B v ks wr) (hb : Below wr.heap.size wr w5) (hB : B ≤ wr.heap.size) (hn : NodesC (FreshB wr.heap.size w5) w5 u2 K) :
    KRow (RowC B v (w5.alloc (ndObj n t u2))) B v ks (w5.alloc (ndObj n t u2)) ∧
    NodesC (RowC B v (w5.alloc (ndObj n t u2))) (w5.alloc (ndObj n t u2)) (.slice (some ⟨w5.heap.size, 0, none⟩) 1 1) (.cons ⟨n, [], t⟩ K .nil) := by
  obtain ⟨W, hW⟩ : ∃ W, W = w5.alloc (ndObj n t u2) := ⟨_, rfl⟩
  rw [← hW]
  have hbW : Below w5.heap.size w5 W := by rw [hW]; exact below_one w5 _
  have hzW : W.heap.size = w5.heap.size + 1 := by rw [hW, World.size_alloc]
  have hblk : W.heap[w5.heap.size]? = some (.cells #[.string (str n), .slice none 0 0, .string (str t), u2] 36 (0, 0)) := by rw [hW]; exact heap_alloc_new w5 _
  have hs := hb.size
  have hown : ∀ k, v.ownBlock = some k → k < wr.heap.size := fun k e => (hk.row.lt k e).2
  constructor
  · exact (hk.kept (fun k hk2 => hk2.2.1) (bl_two hb hbW)).widen (fun b hb2 => ⟨hb2.1, by have := hb2.2.1; omega, hb2.2.2⟩) (fun g e hg2 => hg2.2.2 e)
  · have hN : NodesC (RowC B v W) W u2 K := hn.mono (fun b hb2 => hbW.block b hb2.2) (fun b hb2 => ⟨Nat.le_trans hB hb2.1, by have := hb2.2; omega, fun e => by have h1 := hown b e; have h2 := hb2.1; omega⟩)
    exact .inr ⟨⟨w5.heap.size, 0, none⟩, 1, rfl, Nat.le_refl _, by decide, ⟨⟨by show B ≤ w5.heap.size; omega, by show w5.heap.size < _; omega, fun e => by have h1 := hown _ e; simp only at h1; omega⟩, (Lib.cell_of_heap hblk 0).trans rfl, (Lib.cell_of_heap hblk 2).trans rfl, ⟨_, (Lib.cell_of_heap hblk 1).trans rfl, attrsC_none _ _⟩, ⟨_, (Lib.cell_of_heap hblk 3).trans rfl, hN⟩, trivial⟩⟩
/-- what out has become -/
structure OutT (B : Nat) (v : Value) (T : Tr) (w0 w : World) : Prop where
  row : ∃ ks : List KidV, KRow (RowC B v w) B v ks w ∧ Tr.of (ks.map Prod.fst) = T
  below : Below B w0 w
  size : B ≤ w.heap.size
theorem OutT.nil (w : World) : OutT w.heap.size (.slice none 0 0) .nil w w := ⟨⟨[], KRow.nil _ _ _, rfl⟩, Below.refl _ _, Nat.le_refl _⟩
theorem OutT.kept {B : Nat} {v : Value} {T : Tr} {w0 w w' : World} (h : OutT B v T w0 w) (hb : Below w.heap.size w w') : OutT B v T w0 w' := by
  obtain ⟨ks, h1, h2⟩ := h.row
  exact ⟨⟨ks, (h1.kept (fun k hk => hk.2.1) hb).widen (fun b hb2 => ⟨hb2.1, Nat.lt_of_lt_of_le hb2.2.1 hb.size, hb2.2.2⟩) (fun g e hg => hg.2.2 e), h2⟩, h.below.trans (hb.mono h.size), Nat.le_trans h.size hb.size⟩
theorem OutT.nodes {B : Nat} {v : Value} {T : Tr} {w0 w : World} (h : OutT B v T w0 w) : NodesC (FreshB B w) w v T := by
  obtain ⟨ks, h1, h2⟩ := h.row
  rw [← h2]
  exact h1.nodes (fun b hb => ⟨hb.1, hb.2.1⟩) (fun k e => ⟨(h1.row.lt k e).1, (h1.row.lt k e).2⟩)
theorem OutT.form {B : Nat} {v : Value} {T : Tr} {w0 w : World} (h : OutT B v T w0 w) : ∃ A c, v = .slice A T.len c := by
  exact h.nodes.form
/-- append(out, a node) -/
theorem wpList_out {ops : Array Oper} {rest : List Oper} {o : Oper} {a : Act} {Q : Exit → Act → World → Prop} (hgd : o.guard = none) (s x : Operand)
    (ho : o.op = .call { callee := .builtin .append, args := #[s, x], argTypes := #[26, 26] })
    (B : Nat) (v : Value) (T : Tr) (w0 w5 : World) (hs : a.eval s = v) (n t : List UInt8) (u2 : Value) (K : Tr) (wr : World) (hk : OutT B v T w0 wr) (hb : Below wr.heap.size wr w5) (hn : NodesC (FreshB wr.heap.size w5) w5 u2 K)
    (z : Nat) (hz : z = w5.heap.size) (hx : a.eval x = .slice (some ⟨z, 0, none⟩) 1 1) (hlen : T.len + 1 ≤ 1073741824)
    (h : ∀ v' w', OutT B v' (T.app (.cons ⟨n, [], t⟩ K .nil)) w0 w' → (w5.alloc (ndObj n t u2)).grownBy w' v.ownBlock → (∀ k, v.ownBlock = some k → k < wr.heap.size) → wpList Try.prog ops Q rest (a.put o.dst v') w') : wpList Try.prog ops Q (o :: rest) a (w5.alloc (ndObj n t u2)) := by
  obtain ⟨⟨ks, h1, h2⟩, h3, h4⟩ := hk
  obtain ⟨r1, r2⟩ := pn_ready n t h1 hb h4 hn
  have hW : Below B w0 (w5.alloc (ndObj n t u2)) := (h3.trans (hb.mono h4)).trans ((below_one w5 _).mono (Nat.le_trans h4 hb.size))
  have hWs : B ≤ (w5.alloc (ndObj n t u2)).heap.size := Nat.le_trans h4 (bl_two hb (below_one w5 _)).size
  have hkl : ks.length = T.len := by rw [← h2, Tr.len_of, List.length_map]
  subst hz
  refine wpList_nodes hgd s x ho _ B v ks hs r1 (fun k hk => hk.2.1) hWs _ hx (.cons ⟨n, [], t⟩ K .nil) r2 (by simp only [Tr.len]; omega) ?_
  intro v' qs w7 hk' he' hg' hor'
  refine h v' w7 ⟨⟨ks ++ qs, hk'.widen (fun b hb => ⟨hb.1, Nat.lt_of_lt_of_le hb.2.1 hg'.size, fun e => hk'.out b e hb⟩) (fun g e hg => hg.2.2 e), ?_⟩, hW.grown hg' hWs (fun k e => (r1.row.lt k e).1), Nat.le_trans hWs hg'.size⟩ hg' (fun k e => (h1.row.lt k e).2)
  rw [List.map_append, he', Tr.of_app, h2, Tr.of_list]
/-- append(out, nodes...) where they are given -/
theorem wpList_outs {ops : Array Oper} {rest : List Oper} {o : Oper} {a : Act} {Q : Exit → Act → World → Prop} (hgd : o.guard = none) (s x : Operand)
    (ho : o.op = .call { callee := .builtin .append, args := #[s, x], argTypes := #[26, 26] })
    (B : Nat) (v : Value) (T : Tr) (w0 wr w : World) (hs : a.eval s = v) (u : Value) (U : Tr) (hk : OutT B v T w0 wr) (hb : Below wr.heap.size wr w) (hn : NodesC (FreshB wr.heap.size w) w u U)
    (hx : a.eval x = u) (hlen : T.len + U.len ≤ 1073741824)
    (h : ∀ v' w', OutT B v' (T.app U) w0 w' → w.grownBy w' v.ownBlock → (∀ k, v.ownBlock = some k → k < wr.heap.size) → wpList Try.prog ops Q rest (a.put o.dst v') w') : wpList Try.prog ops Q (o :: rest) a w := by
  obtain ⟨⟨ks, h1, h2⟩, h3, h4⟩ := hk
  have r1 := (h1.kept (fun k hk2 => hk2.2.1) hb).widen (C' := RowC B v w) (fun b hb2 => ⟨hb2.1, Nat.lt_of_lt_of_le hb2.2.1 hb.size, hb2.2.2⟩) (fun g e hg => hg.2.2 e)
  have hown : ∀ k, v.ownBlock = some k → k < wr.heap.size := fun k e => (h1.row.lt k e).2
  have r2 : NodesC (RowC B v w) w u U := hn.mono (fun _ _ => rfl) (fun b hb2 => ⟨Nat.le_trans h4 hb2.1, hb2.2, fun e => by have h1 := hown b e; have h2 := hb2.1; omega⟩)
  have hW : Below B w0 w := h3.trans (hb.mono h4)
  have hWs : B ≤ w.heap.size := Nat.le_trans h4 hb.size
  have hkl : ks.length = T.len := by rw [← h2, Tr.len_of, List.length_map]
  refine wpList_nodes hgd s x ho _ B v ks hs r1 (fun k hk => hk.2.1) hWs _ hx U r2 (by omega) ?_
  intro v' qs w7 hk' he' hg' hor'
  refine h v' w7 ⟨⟨ks ++ qs, hk'.widen (fun b hb => ⟨hb.1, Nat.lt_of_lt_of_le hb.2.1 hg'.size, fun e => hk'.out b e hb⟩) (fun g e hg => hg.2.2 e), ?_⟩, hW.grown hg' hWs (fun k e => (r1.row.lt k e).1), Nat.le_trans hWs hg'.size⟩ hg' hown
  rw [List.map_append, he', Tr.of_app, h2, Tr.of_list]
theorem saysT_len (s : List UInt8) (T : Tr) : (saysT s T).len ≤ T.len + 1 := by unfold saysT; split <;> simp [Tr.len]
theorem saidP_len (l : List (List UInt8)) : (saidP l).len ≤ 2 * l.length := by
  induction l with
  | nil => exact Nat.le_refl _
  | cons a r ih => cases r with
    | nil => exact Nat.le_trans (saysT_len a .nil) (by simp [Tr.len])
    | cons b r =>
      have h := saysT_len a (.cons brH .nil (saidP (b :: r)))
      simp only [Tr.len, List.length_cons] at h ih ⊢
      show (saysT a (.cons brH .nil (saidP (b :: r)))).len ≤ _
      omega
theorem saysT_one (s : List UInt8) (h : s ≠ []) : saysT s .nil = .cons ⟨[], [], s⟩ .nil .nil := by unfold saysT; rw [if_neg h]; rfl
theorem saysT_no : saysT [] .nil = .nil := rfl
set_option maxHeartbeats 2000000 in
theorem said_any (v : Value) (l : List LnL) (w : World) (hl : LnIn w v l) (hlen : l.length ≤ 1000000) :
    Calls Try.prog 38 #[v] w fun e w' => ∃ u, e = .returned u ∧ NodesC (FreshB w.heap.size w') w' u (saidP (l.map (·.2))) ∧ Below w.heap.size w w' := by
  obtain ⟨A, c, rfl⟩ := hl.form
  have H := hide hl
  clear hl
  go_enter Try.func38, Try.ntmps38
  go_wp2_with fail
  go_loopw [3, 8] (fun ov i wr => ∃ (k : Nat) (T : Tr) (A1 : Option Addr) (c1 : Nat), k ≤ l.length ∧ i = .int .i64 k ∧ ov = .slice A1 T.len c1 ∧ Hid (OutT w.heap.size (.slice A1 T.len c1) T w wr) ∧ Hid (T = saidP ((l.take k).map (·.2)))) (fun _ i _ => l.length - (intOf i).toNat)
  case atStart => exact ⟨0, .nil, none, 0, Nat.zero_le _, rfl, rfl, hide (OutT.nil w), hide rfl⟩
  case round =>
    obtain ⟨k, T, A1, c1, hk, rfl, rfl, HO, HT⟩ := hrel
    by_cases hlt : k < l.length
    · obtain ⟨p, hp⟩ : ∃ p, l[k]? = some p := ⟨_, List.getElem?_eq_getElem hlt⟩
      obtain ⟨a, rfl, hn, hcap, hmax, hat⟩ := (H.out.kept (HO.out.below)).some (fun e => by rw [e] at hlt; simp at hlt)
      obtain ⟨c0, c1'⟩ := hat.at hp
      have htk : (l.take (k + 1)).map (·.2) = (l.take k).map (·.2) ++ [p.2] := by rw [List.take_add_one, hp, List.map_append]; rfl
      have hTl : T.len ≤ 2 * k := by
        rw [HT.out]
        refine Nat.le_trans (saidP_len _) ?_
        rw [List.length_map, List.length_take]; omega
      have hk0 : k = 0 → T = .nil := fun e => by rw [HT.out, e]; rfl
      have hkp : 0 < k → saidP ((l.take (k + 1)).map (·.2)) = T.app (.cons brH .nil (saysT p.2 .nil)) := fun e => by
        rw [htk, saidP_snoc _ (fun h0 => by have := congrArg List.length h0; rw [List.length_map, List.length_take, List.length_nil] at this; omega), ← HT.out]
      have hkz : k = 0 → saidP ((l.take (k + 1)).map (·.2)) = saysT p.2 .nil := fun e => by rw [htk, e]; rfl
      have hb1 := below_one wr (Obj.cells #[.int .i64 (p.1 : Int), .string (str p.2)] 42)
      have hO1 := HO.out.kept hb1
      have hz1 : (wr.alloc (Obj.cells #[.int .i64 (p.1 : Int), .string (str p.2)] 42)).heap.size = wr.heap.size + 1 := World.size_alloc ..
      have hx1 : (wr.alloc (Obj.cells #[.int .i64 (p.1 : Int), .string (str p.2)] 42)).heap[wr.heap.size]? = some (Obj.cells #[.int .i64 (p.1 : Int), .string (str p.2)] 42 (0, 0)) := heap_alloc_new wr _
      have b1 : (wr.alloc (Obj.cells #[.int .i64 (p.1 : Int), .string (str p.2)] 42)).cell? ⟨wr.heap.size, 1, none⟩ = some (.string (str p.2)) := (Lib.cell_of_heap hx1 1).trans rfl
      have HX1 := hide hx1
      have HO1 := hide hO1
      have HTL : Hid (T.len ≤ 2000000) := hide (by omega)
      have HKP := hide hkp
      have HKZ := hide hkz
      have HK0 := hide hk0
      have HZ1 := hide hz1
      have HOL := hide (Nat.lt_succ_self wr.heap.size)
      have HOWN : Hid (∀ k, (Value.slice A1 T.len c1).ownBlock = some k → k ≠ wr.heap.size) := hide (fun k e => by
        obtain ⟨ks, h1, _⟩ := HO.out.row
        exact Nat.ne_of_lt (h1.row.lt k e).2)
      clear hat hp htk hTl hkp hkz hk0 hb1 hO1 hcap hmax HO HT hx1 hz1
      by_cases hpos : 0 < k
      · have t1 : decide ((0 : Int) < (k : Int)) = true := decide_eq_true (by omega)
        have HN := hide (HKP.out hpos)
        clear HKP HKZ HK0
        by_cases hs : p.2 = []
        · have t2 : (str p.2).toList.isEmpty = true := by rw [str_list, hs]; rfl
          have HTB : Hid (T.len ≤ 2000001) := hide (by have := HTL.out; omega)
          have HE : Hid (saysT p.2 .nil = .nil) := hide (by rw [hs]; rfl)
          clear b1
          clear hs
          go_wp2_with (
                   refine wpList_out rfl _ _ rfl w.heap.size (.slice A1 T.len c1) T w _ rfl brN [] (.slice none 0 0) .nil _ HO1.out (Below.refl _ _) (nodesC_none _ _) _ HZ1.out.symm rfl (by have := HTL.out; have := HTB.out; omega) ?_
                   intro v' w2 hO' hg' hw'
                   obtain ⟨A2, c2, rfl⟩ := hO'.form
                   obtain ⟨T2, hT2⟩ : ∃ X, X = T.app (.cons ⟨brN, [], []⟩ .nil .nil) := ⟨_, rfl⟩
                   rw [← hT2] at hO'
                   rw [← hT2]
                   have HO2 := hide hO'
                   have HT2 := hide hT2
                   have hblk : w2.heap[wr.heap.size]? = some (Obj.cells #[.int .i64 (p.1 : Int), .string (str p.2)] 42 (0, 0)) := (hg'.block wr.heap.size (by rw [World.size_alloc, HZ1.out]; omega) (fun e => HOWN.out _ e.symm rfl)).trans (((below_one _ _).block wr.heap.size (by rw [HZ1.out]; omega)).trans HX1.out)
                   have b2 : w2.cell? ⟨wr.heap.size, 1, none⟩ = some (.string (str p.2)) := (Lib.cell_of_heap hblk 1).trans rfl
                   have HTB2 : Hid (T2.len ≤ 2000001) := hide (by have h3 := HTL.out; rw [hT2, ← Tr.len_list, Tr.list_app, List.length_append, Tr.len_list]; simp only [Tr.list, List.length_cons, List.length_nil]; omega)
                   clear hblk
                   clear hO' hT2 hg' hw')
          go_roundw
          case rel => exact ⟨k + 1, T2, A2, c2, by omega, by go_num, rfl, HO2, hide (by rw [HT2.out, HN.out, HE.out]; rfl)⟩
          case measure => simp [intOf]; omega
        · have t2 : (str p.2).toList.isEmpty = false := by rw [str_list]; simp [hs]
          have HTB : Hid (T.len ≤ 2000001) := hide (by have := HTL.out; omega)
          have HE : Hid (saysT p.2 .nil = .cons ⟨[], [], p.2⟩ .nil .nil) := hide (saysT_one _ hs)
          clear b1 hs
          go_wp2_with (first
            | (
                   refine wpList_out rfl _ _ rfl w.heap.size (.slice A1 T.len c1) T w _ rfl brN [] (.slice none 0 0) .nil _ HO1.out (Below.refl _ _) (nodesC_none _ _) _ HZ1.out.symm rfl (by have := HTL.out; have := HTB.out; omega) ?_
                   intro v' w2 hO' hg' hw'
                   obtain ⟨A2, c2, rfl⟩ := hO'.form
                   obtain ⟨T2, hT2⟩ : ∃ X, X = T.app (.cons ⟨brN, [], []⟩ .nil .nil) := ⟨_, rfl⟩
                   rw [← hT2] at hO'
                   rw [← hT2]
                   have HO2 := hide hO'
                   have HT2 := hide hT2
                   have hblk : w2.heap[wr.heap.size]? = some (Obj.cells #[.int .i64 (p.1 : Int), .string (str p.2)] 42 (0, 0)) := (hg'.block wr.heap.size (by rw [World.size_alloc, HZ1.out]; omega) (fun e => HOWN.out _ e.symm rfl)).trans (((below_one _ _).block wr.heap.size (by rw [HZ1.out]; omega)).trans HX1.out)
                   have b2 : w2.cell? ⟨wr.heap.size, 1, none⟩ = some (.string (str p.2)) := (Lib.cell_of_heap hblk 1).trans rfl
                   have HTB2 : Hid (T2.len ≤ 2000001) := hide (by have h3 := HTL.out; rw [hT2, ← Tr.len_list, Tr.list_app, List.length_append, Tr.len_list]; simp only [Tr.list, List.length_cons, List.length_nil]; omega)
                   clear hblk
                   clear hO' hT2 hg' hw')
            | (
                   refine wpList_out rfl _ _ rfl w.heap.size (.slice A2 T2.len c2) T2 w _ rfl [] p.2 (.slice none 0 0) .nil _ HO2.out (Below.refl _ _) (nodesC_none _ _) _ rfl rfl (by have := HTB2.out; have := HTB2.out; omega) ?_
                   intro v' w3 hO' hg' hw'
                   obtain ⟨A3, c3, rfl⟩ := hO'.form
                   obtain ⟨T3, hT3⟩ : ∃ X, X = T2.app (.cons ⟨[], [], p.2⟩ .nil .nil) := ⟨_, rfl⟩
                   rw [← hT3] at hO'
                   rw [← hT3]
                   have HO3 := hide hO'
                   have HT3 := hide hT3
                   clear hO' hT3 hg' hw'))
          go_roundw
          case rel => exact ⟨k + 1, T3, A3, c3, by omega, by go_num, rfl, HO3, hide (by rw [HT3.out, HT2.out, HN.out, HE.out, Tr.app_assoc]; rfl)⟩
          case measure => simp [intOf]; omega
      · have t1 : decide ((0 : Int) < (k : Int)) = false := decide_eq_false (by omega)
        have hk00 : k = 0 := by omega
        have HN := hide (HKZ.out hk00)
        have HT0 := hide (HK0.out hk00)
        have t1n : decide (0 < k) = false := decide_eq_false hpos
        clear HKP HKZ HK0 hk00
        by_cases hs : p.2 = []
        · have t2 : (str p.2).toList.isEmpty = true := by rw [str_list, hs]; rfl
          have HE : Hid (p.2 = []) := hide hs
          clear hs
          go_wp2_with fail
          go_roundw
          case rel => exact ⟨k + 1, T, A1, c1, by omega, by go_num, rfl, HO1, hide (by rw [HN.out, HE.out, HT0.out]; rfl)⟩
          case measure => simp [intOf]; omega
        · have t2 : (str p.2).toList.isEmpty = false := by rw [str_list]; simp [hs]
          have HE : Hid (saysT p.2 .nil = .cons ⟨[], [], p.2⟩ .nil .nil) := hide (saysT_one _ hs)
          clear hs
          have HTB : Hid (T.len ≤ 2000001) := hide (by have := HTL.out; omega)
          go_wp2_with (
                   refine wpList_out rfl _ _ rfl w.heap.size (.slice A1 T.len c1) T w _ rfl [] p.2 (.slice none 0 0) .nil _ HO1.out (Below.refl _ _) (nodesC_none _ _) _ HZ1.out.symm rfl (by have := HTL.out; have := HTB.out; omega) ?_
                   intro v' w2 hO' hg' hw'
                   obtain ⟨A2, c2, rfl⟩ := hO'.form
                   obtain ⟨T2, hT2⟩ : ∃ X, X = T.app (.cons ⟨[], [], p.2⟩ .nil .nil) := ⟨_, rfl⟩
                   rw [← hT2] at hO'
                   rw [← hT2]
                   have HO2 := hide hO'
                   have HT2 := hide hT2
                   clear hO' hT2 hg' hw')
          go_roundw
          case rel => exact ⟨k + 1, T2, A2, c2, by omega, by go_num, rfl, HO2, hide (by rw [HT2.out, HN.out, HE.out, HT0.out]; rfl)⟩
          case measure => simp [intOf]; omega
    · obtain rfl : k = l.length := by omega
      have HT2 := HT.out
      rw [List.take_length] at HT2
      replace HT2 := hide HT2
      go_wp2_with fail
      go_ret
      refine ⟨_, rfl, ?_, HO.out.below⟩
      have := HO.out.nodes
      rw [HT2.out] at this
      rw [← HT2.out] at this ⊢
      exact this
end Go.Proofs.Ytdeaofnhdbhknaa
