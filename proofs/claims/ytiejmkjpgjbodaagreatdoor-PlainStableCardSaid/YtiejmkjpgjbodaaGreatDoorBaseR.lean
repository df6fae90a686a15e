/- More of the first texts of this claim in one: each with its own head. No statement is proved here. -/
import Derived.Test.YtiejmkjpgjbodaaGreatDoorBaseP
import Derived.Deep.RegionLaw
import Derived.Test.YtiejmkjpgjbodaaGreatDoorBaseQ
import Derived.Maps.AppendAt
import Derived.Test.YtiejmkjpgjbodaaGreatDoorBaseN
import Derived.Test.YtiejmkjpgjbodaaGreatDoorBaseO
import Derived.Test.YtiejmkjpgjbodaaGreatDoorBaseM
import Derived.Deep.WholeRow
import Derived.Lib.SliceRun
import Derived.Deep.MidRow
import Derived.StillTailTactics
namespace Go.Proofs.YtiejmkjpgjbodaaGreatDoor
open Go.RowKit
set_option linter.unusedVariables false
set_option linter.unusedSimpArgs false
set_option maxRecDepth 100000
def RowC (B : Nat) (v : Value) (w : World) : Nat → Prop := fun b => B ≤ b ∧ b < w.heap.size ∧ v.ownBlock ≠ some b
def FreshB (B : Nat) (w : World) : Nat → Prop := fun b => B ≤ b ∧ b < w.heap.size
theorem attrsC_none (C : Nat → Prop) (w : World) : AttrsC C w (.slice none 0 0) [] := ⟨.inl ⟨rfl, rfl⟩, fun a n c e _ => by cases e⟩
theorem nodesC_none (C : Nat → Prop) (w : World) : NodesC C w (.slice none 0 0) .nil := .inl ⟨rfl, rfl⟩
def ndObj (n t : List UInt8) (u : Value) : Obj := .cells #[.string (str n), .slice none 0 0, .string (str t), u] 33
theorem pn_ready {B : Nat} {v u2 : Value} {ks : List KidV} {wr w5 : World} (n t : List UInt8) {K : Tr} (hk : KRow (RowC B v wr) B v ks wr) (hb : Below wr.heap.size wr w5) (hB : B ≤ wr.heap.size) (hn : NodesC (FreshB wr.heap.size w5) w5 u2 K) :
    KRow (RowC B v (w5.alloc (ndObj n t u2))) B v ks (w5.alloc (ndObj n t u2)) ∧
    NodesC (RowC B v (w5.alloc (ndObj n t u2))) (w5.alloc (ndObj n t u2)) (.slice (some ⟨w5.heap.size, 0, none⟩) 1 1) (.cons ⟨n, [], t⟩ K .nil) := by
  obtain ⟨W, hW⟩ : ∃ W, W = w5.alloc (ndObj n t u2) := ⟨_, rfl⟩
  rw [← hW]
  have hbW : Below w5.heap.size w5 W := by rw [hW]; exact below_one w5 _
  have hzW : W.heap.size = w5.heap.size + 1 := by rw [hW, World.size_alloc]
  have hblk : W.heap[w5.heap.size]? = some (.cells #[.string (str n), .slice none 0 0, .string (str t), u2] 33 (0, 0)) := by rw [hW]; exact heap_alloc_new w5 _
  have hs := hb.size
  have hown : ∀ k, v.ownBlock = some k → k < wr.heap.size := fun k e => (hk.row.lt k e).2
  constructor
  · exact (hk.kept (fun k hk2 => hk2.2.1) (bl_two hb hbW)).widen (fun b hb2 => ⟨hb2.1, by have := hb2.2.1; omega, hb2.2.2⟩) (fun g e hg2 => hg2.2.2 e)
  · have hN : NodesC (RowC B v W) W u2 K := hn.mono (fun b hb2 => hbW.block b hb2.2) (fun b hb2 => ⟨Nat.le_trans hB hb2.1, by have := hb2.2; omega, fun e => by have h1 := hown b e; have h2 := hb2.1; omega⟩)
    exact .inr ⟨⟨w5.heap.size, 0, none⟩, 1, rfl, Nat.le_refl _, by decide, ⟨⟨by show B ≤ w5.heap.size; omega, by show w5.heap.size < _; omega, fun e => by have h1 := hown _ e; simp only at h1; omega⟩, (Lib.cell_of_heap hblk 0).trans rfl, (Lib.cell_of_heap hblk 2).trans rfl, ⟨_, (Lib.cell_of_heap hblk 1).trans rfl, attrsC_none _ _⟩, ⟨_, (Lib.cell_of_heap hblk 3).trans rfl, hN⟩, trivial⟩⟩
structure OutT (B : Nat) (v : Value) (T : Tr) (w0 w : World) : Prop where
  row : ∃ ks : List KidV, KRow (RowC B v w) B v ks w ∧ Tr.of (ks.map Prod.fst) = T
  below : Below B w0 w
  size : B ≤ w.heap.size
theorem OutT.nil (w : World) : OutT w.heap.size (.slice none 0 0) .nil w w := ⟨⟨[], KRow.nil _ _ _, rfl⟩, Below.refl _ _, Nat.le_refl _⟩
theorem OutT.kept {B : Nat} {v : Value} {T : Tr} {w0 w w' : World} (h : OutT B v T w0 w) (hb : Below w.heap.size w w') : OutT B v T w0 w' := by
  obtain ⟨ks, h1, h2⟩ := h.row
  exact ⟨⟨ks, (h1.kept (fun k hk => hk.2.1) hb).widen (fun b hb2 => ⟨hb2.1, Nat.lt_of_lt_of_le hb2.2.1 hb.size, hb2.2.2⟩) (fun g e hg => hg.2.2 e), h2⟩, h.below.trans (hb.mono h.size), Nat.le_trans h.size hb.size⟩
theorem OutT.nodes {B : Nat} {v : Value} {T : Tr} {w0 w : World} (h : OutT B v T w0 w) : NodesC (FreshB B w) w v T := by
  obtain ⟨ks, h1, h2⟩ := h.row
  rw [← h2]
  exact h1.nodes (fun b hb => ⟨hb.1, hb.2.1⟩) (fun k e => ⟨(h1.row.lt k e).1, (h1.row.lt k e).2⟩)
theorem OutT.form {B : Nat} {v : Value} {T : Tr} {w0 w : World} (h : OutT B v T w0 w) : ∃ A c, v = .slice A T.len c := by
  exact h.nodes.form
theorem wpList_out {ops : Array Oper} {rest : List Oper} {o : Oper} {a : Act} {Q : Exit → Act → World → Prop} (hgd : o.guard = none) (s x : Operand)
    (ho : o.op = .call { callee := .builtin .append, args := #[s, x], argTypes := #[23, 23] })
    (B : Nat) (v : Value) (T : Tr) (w0 w5 : World) (hs : a.eval s = v) (n t : List UInt8) (u2 : Value) (K : Tr) (wr : World) (hk : OutT B v T w0 wr) (hb : Below wr.heap.size wr w5) (hn : NodesC (FreshB wr.heap.size w5) w5 u2 K)
    (z : Nat) (hz : z = w5.heap.size) (hx : a.eval x = .slice (some ⟨z, 0, none⟩) 1 1) (hlen : T.len + 1 ≤ 1073741824)
    (h : ∀ v' w', OutT B v' (T.app (.cons ⟨n, [], t⟩ K .nil)) w0 w' → (w5.alloc (ndObj n t u2)).grownBy w' v.ownBlock → (∀ k, v.ownBlock = some k → k < wr.heap.size) → wpList Tryz.prog ops Q rest (a.put o.dst v') w') : wpList Tryz.prog ops Q (o :: rest) a (w5.alloc (ndObj n t u2)) := by
  obtain ⟨⟨ks, h1, h2⟩, h3, h4⟩ := hk
  obtain ⟨r1, r2⟩ := pn_ready n t h1 hb h4 hn
  have hW : Below B w0 (w5.alloc (ndObj n t u2)) := (h3.trans (hb.mono h4)).trans ((below_one w5 _).mono (Nat.le_trans h4 hb.size))
  have hWs : B ≤ (w5.alloc (ndObj n t u2)).heap.size := Nat.le_trans h4 (bl_two hb (below_one w5 _)).size
  have hkl : ks.length = T.len := by rw [← h2, Tr.len_of, List.length_map]
  subst hz
  refine wpList_nodes hgd s x ho _ B v ks hs r1 (fun k hk => hk.2.1) hWs _ hx (.cons ⟨n, [], t⟩ K .nil) r2 (by simp only [Tr.len]; omega) ?_
  intro v' qs w7 hk' he' hg' hor'
  refine h v' w7 ⟨⟨ks ++ qs, hk'.widen (fun b hb => ⟨hb.1, Nat.lt_of_lt_of_le hb.2.1 hg'.size, fun e => hk'.out b e hb⟩) (fun g e hg => hg.2.2 e), ?_⟩, hW.grown hg' hWs (fun k e => (r1.row.lt k e).1), Nat.le_trans hWs hg'.size⟩ hg' (fun k e => (h1.row.lt k e).2)
  rw [List.map_append, he', Tr.of_app, h2, Tr.of_list]
theorem wpList_outs {ops : Array Oper} {rest : List Oper} {o : Oper} {a : Act} {Q : Exit → Act → World → Prop} (hgd : o.guard = none) (s x : Operand)
    (ho : o.op = .call { callee := .builtin .append, args := #[s, x], argTypes := #[23, 23] })
    (B : Nat) (v : Value) (T : Tr) (w0 wr w : World) (hs : a.eval s = v) (u : Value) (U : Tr) (hk : OutT B v T w0 wr) (hb : Below wr.heap.size wr w) (hn : NodesC (FreshB wr.heap.size w) w u U)
    (hx : a.eval x = u) (hlen : T.len + U.len ≤ 1073741824)
    (h : ∀ v' w', OutT B v' (T.app U) w0 w' → w.grownBy w' v.ownBlock → (∀ k, v.ownBlock = some k → k < wr.heap.size) → wpList Tryz.prog ops Q rest (a.put o.dst v') w') : wpList Tryz.prog ops Q (o :: rest) a w := by
  obtain ⟨⟨ks, h1, h2⟩, h3, h4⟩ := hk
  have r1 := (h1.kept (fun k hk2 => hk2.2.1) hb).widen (C' := RowC B v w) (fun b hb2 => ⟨hb2.1, Nat.lt_of_lt_of_le hb2.2.1 hb.size, hb2.2.2⟩) (fun g e hg => hg.2.2 e)
  have hown : ∀ k, v.ownBlock = some k → k < wr.heap.size := fun k e => (h1.row.lt k e).2
  have r2 : NodesC (RowC B v w) w u U := hn.mono (fun _ _ => rfl) (fun b hb2 => ⟨Nat.le_trans h4 hb2.1, hb2.2, fun e => by have h1 := hown b e; have h2 := hb2.1; omega⟩)
  have hW : Below B w0 w := h3.trans (hb.mono h4)
  have hWs : B ≤ w.heap.size := Nat.le_trans h4 hb.size
  have hkl : ks.length = T.len := by rw [← h2, Tr.len_of, List.length_map]
  refine wpList_nodes hgd s x ho _ B v ks hs r1 (fun k hk => hk.2.1) hWs _ hx U r2 (by omega) ?_
  intro v' qs w7 hk' he' hg' hor'
  refine h v' w7 ⟨⟨ks ++ qs, hk'.widen (fun b hb => ⟨hb.1, Nat.lt_of_lt_of_le hb.2.1 hg'.size, fun e => hk'.out b e hb⟩) (fun g e hg => hg.2.2 e), ?_⟩, hW.grown hg' hWs (fun k e => (r1.row.lt k e).1), Nat.le_trans hWs hg'.size⟩ hg' hown
  rw [List.map_append, he', Tr.of_app, h2, Tr.of_list]
theorem saysT_len (s : List UInt8) (T : Tr) : (saysT s T).len ≤ T.len + 1 := by unfold saysT; split <;> simp [Tr.len]
theorem saidP_len (l : List (List UInt8)) : (saidP l).len ≤ 2 * l.length := by
  induction l with
  | nil => exact Nat.le_refl _
  | cons a r ih => cases r with
    | nil => exact Nat.le_trans (saysT_len a .nil) (by simp [Tr.len])
    | cons b r =>
      have h := saysT_len a (.cons brH .nil (saidP (b :: r)))
      simp only [Tr.len, List.length_cons] at h ih ⊢
      show (saysT a (.cons brH .nil (saidP (b :: r)))).len ≤ _
      omega
theorem saysT_one (s : List UInt8) (h : s ≠ []) : saysT s .nil = .cons ⟨[], [], s⟩ .nil .nil := by unfold saysT; rw [if_neg h]; rfl
set_option maxHeartbeats 2000000 in
theorem said_any (v : Value) (l : List LnL) (w : World) (hl : LnIn w v l) (hlen : l.length ≤ 1000000) :
    Calls Tryz.prog 75 #[v] w fun e w' => ∃ u, e = .returned u ∧ NodesC (FreshB w.heap.size w') w' u (saidP (l.map (·.2))) ∧ Below w.heap.size w w' := by
  obtain ⟨A, c, rfl⟩ := hl.form
  have H := hide hl
  clear hl
  go_enter Tryz.func75, Tryz.ntmps75
  go_wp2_with fail
  go_loopw [3, 8] (fun ov i wr => ∃ (k : Nat) (T : Tr) (A1 : Option Addr) (c1 : Nat), k ≤ l.length ∧ i = .int .i64 k ∧ ov = .slice A1 T.len c1 ∧ Hid (OutT w.heap.size (.slice A1 T.len c1) T w wr) ∧ Hid (T = saidP ((l.take k).map (·.2)))) (fun _ i _ => l.length - (intOf i).toNat)
  case atStart => exact ⟨0, .nil, none, 0, Nat.zero_le _, rfl, rfl, hide (OutT.nil w), hide rfl⟩
  case round =>
    obtain ⟨k, T, A1, c1, hk, rfl, rfl, HO, HT⟩ := hrel
    by_cases hlt : k < l.length
    · obtain ⟨p, hp⟩ : ∃ p, l[k]? = some p := ⟨_, List.getElem?_eq_getElem hlt⟩
      obtain ⟨a, rfl, hn, hcap, hmax, hat⟩ := (H.out.kept (HO.out.below)).some (fun e => by rw [e] at hlt; simp at hlt)
      obtain ⟨c0, c1'⟩ := hat.at hp
      have htk : (l.take (k + 1)).map (·.2) = (l.take k).map (·.2) ++ [p.2] := by rw [List.take_add_one, hp, List.map_append]; rfl
      have hTl : T.len ≤ 2 * k := by
        rw [HT.out]
        refine Nat.le_trans (saidP_len _) ?_
        rw [List.length_map, List.length_take]; omega
      have hk0 : k = 0 → T = .nil := fun e => by rw [HT.out, e]; rfl
      have hkp : 0 < k → saidP ((l.take (k + 1)).map (·.2)) = T.app (.cons brH .nil (saysT p.2 .nil)) := fun e => by
        rw [htk, saidP_snoc _ (fun h0 => by have := congrArg List.length h0; rw [List.length_map, List.length_take, List.length_nil] at this; omega), ← HT.out]
      have hkz : k = 0 → saidP ((l.take (k + 1)).map (·.2)) = saysT p.2 .nil := fun e => by rw [htk, e]; rfl
      have hb1 := below_one wr (Obj.cells #[.int .i64 (p.1 : Int), .string (str p.2)] 40)
      have hO1 := HO.out.kept hb1
      have hz1 : (wr.alloc (Obj.cells #[.int .i64 (p.1 : Int), .string (str p.2)] 40)).heap.size = wr.heap.size + 1 := World.size_alloc ..
      have hx1 : (wr.alloc (Obj.cells #[.int .i64 (p.1 : Int), .string (str p.2)] 40)).heap[wr.heap.size]? = some (Obj.cells #[.int .i64 (p.1 : Int), .string (str p.2)] 40 (0, 0)) := heap_alloc_new wr _
      have b1 : (wr.alloc (Obj.cells #[.int .i64 (p.1 : Int), .string (str p.2)] 40)).cell? ⟨wr.heap.size, 1, none⟩ = some (.string (str p.2)) := (Lib.cell_of_heap hx1 1).trans rfl
      have HX1 := hide hx1
      have HO1 := hide hO1
      have HTL : Hid (T.len ≤ 2000000) := hide (by omega)
      have HKP := hide hkp
      have HKZ := hide hkz
      have HK0 := hide hk0
      have HZ1 := hide hz1
      have HOL := hide (Nat.lt_succ_self wr.heap.size)
      have HOWN : Hid (∀ k, (Value.slice A1 T.len c1).ownBlock = some k → k ≠ wr.heap.size) := hide (fun k e => by
        obtain ⟨ks, h1, _⟩ := HO.out.row
        exact Nat.ne_of_lt (h1.row.lt k e).2)
      clear hat hp htk hTl hkp hkz hk0 hb1 hO1 hcap hmax HO HT hx1 hz1
      by_cases hpos : 0 < k
      · have t1 : decide ((0 : Int) < (k : Int)) = true := decide_eq_true (by omega)
        have HN := hide (HKP.out hpos)
        clear HKP HKZ HK0
        by_cases hs : p.2 = []
        · have t2 : (str p.2).toList.isEmpty = true := by rw [str_list, hs]; rfl
          have HTB : Hid (T.len ≤ 2000001) := hide (by have := HTL.out; omega)
          have HE : Hid (saysT p.2 .nil = .nil) := hide (by rw [hs]; rfl)
          clear b1
          clear hs
          go_wp2_with (
                   refine wpList_out rfl _ _ rfl w.heap.size (.slice A1 T.len c1) T w _ rfl brN [] (.slice none 0 0) .nil _ HO1.out (Below.refl _ _) (nodesC_none _ _) _ HZ1.out.symm rfl (by have := HTL.out; have := HTB.out; omega) ?_
                   intro v' w2 hO' hg' hw'
                   obtain ⟨A2, c2, rfl⟩ := hO'.form
                   obtain ⟨T2, hT2⟩ : ∃ X, X = T.app (.cons ⟨brN, [], []⟩ .nil .nil) := ⟨_, rfl⟩
                   rw [← hT2] at hO'
                   rw [← hT2]
                   have HO2 := hide hO'
                   have HT2 := hide hT2
                   have hblk : w2.heap[wr.heap.size]? = some (Obj.cells #[.int .i64 (p.1 : Int), .string (str p.2)] 40 (0, 0)) := (hg'.block wr.heap.size (by rw [World.size_alloc, HZ1.out]; omega) (fun e => HOWN.out _ e.symm rfl)).trans (((below_one _ _).block wr.heap.size (by rw [HZ1.out]; omega)).trans HX1.out)
                   have b2 : w2.cell? ⟨wr.heap.size, 1, none⟩ = some (.string (str p.2)) := (Lib.cell_of_heap hblk 1).trans rfl
                   have HTB2 : Hid (T2.len ≤ 2000001) := hide (by have h3 := HTL.out; rw [hT2, ← Tr.len_list, Tr.list_app, List.length_append, Tr.len_list]; simp only [Tr.list, List.length_cons, List.length_nil]; omega)
                   clear hblk
                   clear hO' hT2 hg' hw')
          go_roundw
          case rel => exact ⟨k + 1, T2, A2, c2, by omega, by go_num, rfl, HO2, hide (by rw [HT2.out, HN.out, HE.out]; rfl)⟩
          case measure => simp [intOf]; omega
        · have t2 : (str p.2).toList.isEmpty = false := by rw [str_list]; simp [hs]
          have HTB : Hid (T.len ≤ 2000001) := hide (by have := HTL.out; omega)
          have HE : Hid (saysT p.2 .nil = .cons ⟨[], [], p.2⟩ .nil .nil) := hide (saysT_one _ hs)
          clear b1 hs
          go_wp2_with (first
            | (
                   refine wpList_out rfl _ _ rfl w.heap.size (.slice A1 T.len c1) T w _ rfl brN [] (.slice none 0 0) .nil _ HO1.out (Below.refl _ _) (nodesC_none _ _) _ HZ1.out.symm rfl (by have := HTL.out; have := HTB.out; omega) ?_
                   intro v' w2 hO' hg' hw'
                   obtain ⟨A2, c2, rfl⟩ := hO'.form
                   obtain ⟨T2, hT2⟩ : ∃ X, X = T.app (.cons ⟨brN, [], []⟩ .nil .nil) := ⟨_, rfl⟩
                   rw [← hT2] at hO'
                   rw [← hT2]
                   have HO2 := hide hO'
                   have HT2 := hide hT2
                   have hblk : w2.heap[wr.heap.size]? = some (Obj.cells #[.int .i64 (p.1 : Int), .string (str p.2)] 40 (0, 0)) := (hg'.block wr.heap.size (by rw [World.size_alloc, HZ1.out]; omega) (fun e => HOWN.out _ e.symm rfl)).trans (((below_one _ _).block wr.heap.size (by rw [HZ1.out]; omega)).trans HX1.out)
                   have b2 : w2.cell? ⟨wr.heap.size, 1, none⟩ = some (.string (str p.2)) := (Lib.cell_of_heap hblk 1).trans rfl
                   have HTB2 : Hid (T2.len ≤ 2000001) := hide (by have h3 := HTL.out; rw [hT2, ← Tr.len_list, Tr.list_app, List.length_append, Tr.len_list]; simp only [Tr.list, List.length_cons, List.length_nil]; omega)
                   clear hblk
                   clear hO' hT2 hg' hw')
            | (
                   refine wpList_out rfl _ _ rfl w.heap.size (.slice A2 T2.len c2) T2 w _ rfl [] p.2 (.slice none 0 0) .nil _ HO2.out (Below.refl _ _) (nodesC_none _ _) _ rfl rfl (by have := HTB2.out; have := HTB2.out; omega) ?_
                   intro v' w3 hO' hg' hw'
                   obtain ⟨A3, c3, rfl⟩ := hO'.form
                   obtain ⟨T3, hT3⟩ : ∃ X, X = T2.app (.cons ⟨[], [], p.2⟩ .nil .nil) := ⟨_, rfl⟩
                   rw [← hT3] at hO'
                   rw [← hT3]
                   have HO3 := hide hO'
                   have HT3 := hide hT3
                   clear hO' hT3 hg' hw'))
          go_roundw
          case rel => exact ⟨k + 1, T3, A3, c3, by omega, by go_num, rfl, HO3, hide (by rw [HT3.out, HT2.out, HN.out, HE.out, Tr.app_assoc]; rfl)⟩
          case measure => simp [intOf]; omega
      · have t1 : decide ((0 : Int) < (k : Int)) = false := decide_eq_false (by omega)
        have hk00 : k = 0 := by omega
        have HN := hide (HKZ.out hk00)
        have HT0 := hide (HK0.out hk00)
        have t1n : decide (0 < k) = false := decide_eq_false hpos
        clear HKP HKZ HK0 hk00
        by_cases hs : p.2 = []
        · have t2 : (str p.2).toList.isEmpty = true := by rw [str_list, hs]; rfl
          have HE : Hid (p.2 = []) := hide hs
          clear hs
          go_wp2_with fail
          go_roundw
          case rel => exact ⟨k + 1, T, A1, c1, by omega, by go_num, rfl, HO1, hide (by rw [HN.out, HE.out, HT0.out]; rfl)⟩
          case measure => simp [intOf]; omega
        · have t2 : (str p.2).toList.isEmpty = false := by rw [str_list]; simp [hs]
          have HE : Hid (saysT p.2 .nil = .cons ⟨[], [], p.2⟩ .nil .nil) := hide (saysT_one _ hs)
          clear hs
          have HTB : Hid (T.len ≤ 2000001) := hide (by have := HTL.out; omega)
          go_wp2_with (
                   refine wpList_out rfl _ _ rfl w.heap.size (.slice A1 T.len c1) T w _ rfl [] p.2 (.slice none 0 0) .nil _ HO1.out (Below.refl _ _) (nodesC_none _ _) _ HZ1.out.symm rfl (by have := HTL.out; have := HTB.out; omega) ?_
                   intro v' w2 hO' hg' hw'
                   obtain ⟨A2, c2, rfl⟩ := hO'.form
                   obtain ⟨T2, hT2⟩ : ∃ X, X = T.app (.cons ⟨[], [], p.2⟩ .nil .nil) := ⟨_, rfl⟩
                   rw [← hT2] at hO'
                   rw [← hT2]
                   have HO2 := hide hO'
                   have HT2 := hide hT2
                   clear hO' hT2 hg' hw')
          go_roundw
          case rel => exact ⟨k + 1, T2, A2, c2, by omega, by go_num, rfl, HO2, hide (by rw [HT2.out, HN.out, HE.out, HT0.out]; rfl)⟩
          case measure => simp [intOf]; omega
    · obtain rfl : k = l.length := by omega
      have HT2 := HT.out
      rw [List.take_length] at HT2
      replace HT2 := hide HT2
      go_wp2_with fail
      go_ret
      refine ⟨_, rfl, ?_, HO.out.below⟩
      have := HO.out.nodes
      rw [HT2.out] at this
      rw [← HT2.out] at this ⊢
      exact this
end Go.Proofs.YtiejmkjpgjbodaaGreatDoor

namespace Go.Proofs.YtiejmkjpgjbodaaGreatDoor
open Go.RowKit
set_option linter.unusedVariables false
set_option linter.unusedSimpArgs false
set_option maxRecDepth 100000
theorem pn_readyW {B : Nat} {v u2 : Value} {ks : List KidV} {wr w5 W : World} (n t : List UInt8) {K : Tr} (hk : KRow (RowC B v wr) B v ks wr) (hb : Below wr.heap.size wr w5) (hB : B ≤ wr.heap.size) (hn : NodesC (FreshB wr.heap.size w5) w5 u2 K)
    (hbW : Below w5.heap.size w5 W) (hzW : W.heap.size = w5.heap.size + 1) (hblk : W.heap[w5.heap.size]? = some (.cells #[.string (str n), .slice none 0 0, .string (str t), u2] 33 (0, 0))) :
    KRow (RowC B v W) B v ks W ∧ NodesC (RowC B v W) W (.slice (some ⟨w5.heap.size, 0, none⟩) 1 1) (.cons ⟨n, [], t⟩ K .nil) := by
  have hs := hb.size
  have hown : ∀ k, v.ownBlock = some k → k < wr.heap.size := fun k e => (hk.row.lt k e).2
  constructor
  · exact (hk.kept (fun k hk2 => hk2.2.1) (bl_two hb hbW)).widen (fun b hb2 => ⟨hb2.1, by have := hb2.2.1; omega, hb2.2.2⟩) (fun g e hg2 => hg2.2.2 e)
  · have hN : NodesC (RowC B v W) W u2 K := hn.mono (fun b hb2 => hbW.block b hb2.2) (fun b hb2 => ⟨Nat.le_trans hB hb2.1, by have := hb2.2; omega, fun e => by have h1 := hown b e; have h2 := hb2.1; omega⟩)
    exact .inr ⟨⟨w5.heap.size, 0, none⟩, 1, rfl, Nat.le_refl _, by decide, ⟨⟨by show B ≤ w5.heap.size; omega, by show w5.heap.size < _; omega, fun e => by have h1 := hown _ e; simp only at h1; omega⟩, (Lib.cell_of_heap hblk 0).trans rfl, (Lib.cell_of_heap hblk 2).trans rfl, ⟨_, (Lib.cell_of_heap hblk 1).trans rfl, attrsC_none _ _⟩, ⟨_, (Lib.cell_of_heap hblk 3).trans rfl, hN⟩, trivial⟩⟩
theorem step_out {ops : Array Oper} {o : Oper} {a : Act} {W : World} {Kc : Act → World → Prop} {Q : Exit → Act → World → Prop} {E : Prop} (hgd : o.guard = none) (s x : Operand)
    (ho : o.op = .call { callee := .builtin .append, args := #[s, x], argTypes := #[23, 23] })
    (B : Nat) (v : Value) (T : Tr) (w0 wr w5 : World) (hs : a.eval s = v) (n t : List UInt8) (u2 : Value) (K : Tr) (hk : OutT B v T w0 wr) (hb : Below wr.heap.size wr w5) (hn : NodesC (FreshB wr.heap.size w5) w5 u2 K)
    (hbW : Below w5.heap.size w5 W) (hzW : W.heap.size = w5.heap.size + 1) (hblk : W.heap[w5.heap.size]? = some (.cells #[.string (str n), .slice none 0 0, .string (str t), u2] 33 (0, 0)))
    (z : Nat) (hz : z = w5.heap.size) (hx : a.eval x = .slice (some ⟨z, 0, none⟩) 1 1) (hlen : T.len + 1 ≤ 1073741824)
    (h : ∀ v' w', OutT B v' (T.app (.cons ⟨n, [], t⟩ K .nil)) w0 w' → W.grownBy w' v.ownBlock → (∀ k, v.ownBlock = some k → k < wr.heap.size) → Kc (a.put o.dst v') w') :
    if Region.wanted o (yielded ops a.tmps) = true then Oper.wp Tryz.prog o a W Kc Q else E := by
  have hw : Region.wanted o (yielded ops a.tmps) = true := by simp [Region.wanted, hgd]
  rw [if_pos hw]
  obtain ⟨⟨ks, h1, h2⟩, h3, h4⟩ := hk
  obtain ⟨r1, r2⟩ := pn_readyW n t h1 hb h4 hn hbW hzW hblk
  have hW : Below B w0 W := (h3.trans (hb.mono h4)).trans (hbW.mono (Nat.le_trans h4 hb.size))
  have hWs : B ≤ W.heap.size := Nat.le_trans h4 (bl_two hb hbW).size
  have hkl : ks.length = T.len := by rw [← h2, Tr.len_of, List.length_map]
  subst hz
  obtain ⟨i0, hi, hz0, hz1, hz2⟩ := info_parts info_nd14
  rcases r2 with ⟨h0, _⟩ | ⟨ad, cap, hv, hl1, hl2, hat⟩
  · cases h0
  · injection hv with e1 e2 e3
    injection e1 with e1
    subst e1 e3
    obtain ⟨qs, f1, f2, f3⟩ := nodesAt_vals hat
    have hql : qs.length = 1 := by rw [← List.length_map (f := Prod.fst), f1]; rfl
    refine wp_append_own2 _ s x 23 ho B 33 i0 (.agg #[.string ByteArray.empty, .slice none 0 0, .string ByteArray.empty, .slice none 0 0]) 4 80 Tryz.underlying23 hi hz0 hz1 hz2 rfl (by decide) v ks.length (nodeVals ks) hs r1.row _ 1 1 (nodeVals qs) hx (by rw [nodeVals_length, hql]) f2 (nodeVals_one qs fun q hq => ⟨attrsC_one (f3 q hq).1, nodesC_one (f3 q hq).2⟩) (by unfold maxLen; omega) (by omega) hWs ?_
    intro v' w7 ho' hg' hor'
    have hk' : KRow (RowC B v W) B v' (ks ++ qs) w7 := by
      refine ⟨by rw [nodeVals_append, List.length_append, hql]; exact ho', fun q hq => ?_, fun g hg2 hCg => ?_⟩
      · have hkk : ∀ b, RowC B v W b → w7.heap[b]? = W.heap[b]? := fun b hb => hg'.block b hb.2.1 (fun e => r1.out b e.symm hb)
        rcases List.mem_append.1 hq with hq | hq
        · exact ⟨(r1.each q hq).1.mono hkk (fun _ x => x), (r1.each q hq).2.mono hkk (fun _ x => x)⟩
        · exact ⟨(f3 q hq).1.mono hkk (fun _ x => x), (f3 q hq).2.mono hkk (fun _ x => x)⟩
      · rcases hor' with e | e
        · exact r1.out g (by rw [← e]; exact hg2) hCg
        · rw [e] at hg2
          injection hg2 with hg2
          exact absurd hCg.2.1 (by omega)
    refine h v' w7 ⟨⟨ks ++ qs, hk'.widen (fun b hb => ⟨hb.1, Nat.lt_of_lt_of_le hb.2.1 hg'.size, fun e => hk'.out b e hb⟩) (fun g e hg => hg.2.2 e), ?_⟩, hW.grown hg' hWs (fun k e => (r1.row.lt k e).1), Nat.le_trans hWs hg'.size⟩ hg' (fun k e => (h1.row.lt k e).2)
    rw [List.map_append, f1, Tr.of_app, h2, Tr.of_list]
def isAt (lv : Nat) (p : LnL) : Bool := p.1 == lv
def isIn (lv : Nat) (p : LnL) : Bool := decide (lv < p.1)
theorem takeWhile_len {α : Type} (f : α → Bool) (l : List α) : (l.takeWhile f).length ≤ l.length := (List.takeWhile_sublist f).length_le
theorem take_while {α : Type} (f : α → Bool) (l : List α) : l.take (l.takeWhile f).length = l.takeWhile f ∧ l.drop (l.takeWhile f).length = l.dropWhile f := by
  have h := List.takeWhile_append_dropWhile (p := f) (l := l)
  constructor
  · conv => lhs; arg 2; rw [← h]
    rw [List.take_left]
  · conv => lhs; arg 2; rw [← h]
    rw [List.drop_left]
theorem dropWhile_next (f : LnL → Bool) (l : List LnL) (p : LnL) (h : (l.dropWhile f).head? = some p) : f p = false := by
  induction l with
  | nil => cases h
  | cons q r ih =>
    rw [List.dropWhile_cons] at h
    split at h
    · exact ih h
    · rename_i hq
      obtain rfl : q = p := by simpa using h
      simpa using hq
theorem while_all {α : Type} (f : α → Bool) (l : List α) : ∀ p ∈ l.takeWhile f, f p = true := fun p hp => by
  induction l with
  | nil => cases hp
  | cons q r ih =>
    rw [List.takeWhile_cons] at hp
    split at hp
    · rename_i hq
      rcases List.mem_cons.1 hp with rfl | hp
      · exact hq
      · exact ih hp
    · cases hp
theorem round_tree (lv : Nat) (r : List LnL) (hr : ∀ p ∈ r, lv ≤ p.1) :
    treeP (r.map (lowBy lv)) = ((saidP ((r.takeWhile (isAt lv)).map (·.2))).app (if (r.dropWhile (isAt lv)).takeWhile (isIn lv) = [] then .nil else .cons quH (treeP (((r.dropWhile (isAt lv)).takeWhile (isIn lv)).map (lowBy (lv + 1)))) .nil)).app (treeP (((r.dropWhile (isAt lv)).dropWhile (isIn lv)).map (lowBy lv))) ∧
    (r ≠ [] → ((r.dropWhile (isAt lv)).dropWhile (isIn lv)).length < r.length) := by
  obtain ⟨x, hx⟩ : ∃ x, x = r.dropWhile (isAt lv) := ⟨_, rfl⟩
  obtain ⟨y, hy⟩ : ∃ y, y = x.dropWhile (isIn lv) := ⟨_, rfl⟩
  have e1 : r = r.takeWhile (isAt lv) ++ x := by rw [hx, List.takeWhile_append_dropWhile]
  have e2 : x = x.takeWhile (isIn lv) ++ y := by rw [hy, List.takeWhile_append_dropWhile]
  have hxr : ∀ p ∈ x, lv ≤ p.1 := fun p hp => hr p (by rw [e1]; exact List.mem_append.2 (.inr hp))
  have hyr : ∀ p ∈ y, lv ≤ p.1 := fun p hp => hxr p (by rw [e2]; exact List.mem_append.2 (.inr hp))
  have hxn : ∀ p, x.head? = some p → lv < p.1 := fun p hp => by
    have h1 := dropWhile_next (isAt lv) r p (by rw [← hx]; exact hp)
    have h2 := hxr p (List.mem_of_head? hp)
    unfold isAt at h1
    rw [beq_eq_false_iff_ne] at h1
    omega
  have hyn : ∀ p, y.head? = some p → p.1 = lv := fun p hp => by
    have h1 := dropWhile_next (isIn lv) x p (by rw [← hy]; exact hp)
    have h2 := hyr p (List.mem_of_head? hp)
    unfold isIn at h1
    have := of_decide_eq_false h1
    omega
  rw [← hx, ← hy]
  have t1 : treeP (r.map (lowBy lv)) = (saidP ((r.takeWhile (isAt lv)).map (·.2))).app (treeP (x.map (lowBy lv))) := by
    have h0 : (r.takeWhile (isAt lv)).map (·.2) = ((r.takeWhile (isAt lv)).map (lowBy lv)).map (·.2) := by rw [List.map_map]; rfl
    conv => lhs; rw [e1]
    rw [List.map_append, treeP_said, h0]
    · intro p hp
      obtain ⟨q, hq, rfl⟩ := List.mem_map.1 hp
      have := while_all (isAt lv) r q hq
      unfold isAt at this
      rw [beq_iff_eq] at this
      show q.1 - lv = 0
      omega
    · intro h
      unfold nextL at h
      rw [List.head?_map] at h
      cases hh : x.head? with
      | none => rw [hh] at h; cases h
      | some p =>
        rw [hh] at h
        have h1 := hxn p hh
        have h2 : p.1 - lv = 0 := by simpa [lowBy] using h
        omega
  have t2 : treeP (x.map (lowBy lv)) = (if x.takeWhile (isIn lv) = [] then .nil else .cons quH (treeP ((x.takeWhile (isIn lv)).map (lowBy (lv + 1)))) .nil : Tr).app (treeP (y.map (lowBy lv))) := by
    by_cases hb : x.takeWhile (isIn lv) = []
    · rw [if_pos hb]
      have : x = y := by rw [e2, hb]; rfl
      rw [← this]; rfl
    · rw [if_neg hb]
      conv => lhs; rw [e2]
      rw [List.map_append, treeP_quoted _ _ (by simpa using hb), lowBy_down]
      · rfl
      · intro p hp
        obtain ⟨q, hq, rfl⟩ := List.mem_map.1 hp
        have := of_decide_eq_true (while_all (isIn lv) x q hq)
        show 0 < q.1 - lv
        omega
      · cases hh : y with
        | nil => exact .inl rfl
        | cons p q =>
          refine .inr ?_
          have := hyn p (by rw [hh]; rfl)
          show some (p.1 - lv) = _
          rw [this, Nat.sub_self]
  refine ⟨by rw [t1, t2, Tr.app_assoc], fun hne => ?_⟩
  have l1 := congrArg List.length e1
  have l2 := congrArg List.length e2
  rw [List.length_append] at l1 l2
  obtain ⟨p, q, rfl⟩ := List.exists_cons_of_ne_nil hne
  have hp := hr p (List.mem_cons_self ..)
  by_cases h : p.1 = lv
  · have : ((p :: q).takeWhile (isAt lv)).length ≠ 0 := by
      rw [List.takeWhile_cons, show isAt lv p = true from beq_iff_eq.2 h]; simp
    omega
  · have hx2 : x = p :: q := by
      rw [hx, List.dropWhile_cons, show isAt lv p = false from beq_eq_false_iff_ne.2 h]; rfl
    have : (x.takeWhile (isIn lv)).length ≠ 0 := by
      rw [hx2, List.takeWhile_cons, show isIn lv p = true from decide_eq_true (by omega)]; simp
    omega
end Go.Proofs.YtiejmkjpgjbodaaGreatDoor

namespace Go.Proofs.YtiejmkjpgjbodaaGreatDoor
open Go.RowKit
set_option linter.unusedVariables false
set_option linter.unusedSimpArgs false
set_option maxRecDepth 100000
def NodesQ (lv : Nat) : Prop := ∀ (v : Value) (l : List LnL) (w : World), l ≠ [] → l.length ≤ 1000000 → (∀ p ∈ l, lv ≤ p.1 ∧ p.1 ≤ 20) → LnIn w v l →
    Calls Tryz.prog 29 #[v, .int .i64 (lv : Int)] w fun e w' => ∃ u, e = .returned u ∧ NodesC (FreshB w.heap.size w') w' u (treeP (l.map (lowBy lv))) ∧ Below w.heap.size w w'
theorem FreshB.up {B B' : Nat} {w : World} {v : Value} {T : Tr} (h : NodesC (FreshB B' w) w v T) (hB : B ≤ B') : NodesC (FreshB B w) w v T := h.mono (fun _ _ => rfl) (fun b hb => ⟨Nat.le_trans hB hb.1, hb.2⟩)
theorem below_drew (w : World) : Below w.heap.size w w.drew := ⟨rfl, rfl, rfl, Nat.le_refl _, fun _ _ => rfl⟩
theorem wrap64_self {x : Int} (h1 : -9223372036854775808 ≤ x) (h2 : x ≤ 9223372036854775807) : wrap64 x = x := by unfold wrap64; omega
set_option maxHeartbeats 4000000 in
theorem nodes_step (lv : Nat) (IH : NodesQ (lv + 1)) (v : Value) (l : List LnL) (w : World) (hlen : l.length ≤ 1000000) (hl : ∀ p ∈ l, lv ≤ p.1 ∧ p.1 ≤ 20) (hin : LnIn w v l) (hlv : lv ≤ 20) :
    Calls Tryz.prog 29 #[v, .int .i64 (lv : Int)] w fun e w' => ∃ u, e = .returned u ∧ NodesC (FreshB w.heap.size w') w' u (treeP (l.map (lowBy lv))) ∧ Below w.heap.size w w' := by
  obtain ⟨A, c, rfl⟩ := hin.form
  have H := hide hin
  have HIH := hide IH
  have HL := hide hl
  clear hin IH hl
  have hKh : ∀ args w, (callFunc 72 args).run Tryz.prog w = .ok (.enter 72 args) w := enters_of Tryz.func72 (by kernel_rfl) rfl
  have hKd : ∀ args w, (callFunc 73 args).run Tryz.prog w = .ok (.enter 73 args) w := enters_of Tryz.func73 (by kernel_rfl) rfl
  have HKH := hide hKh
  have HKD := hide hKd
  have hb0 := below_one w (.cells #[.int .i64 (lv : Int)] 3)
  have HX0 : Hid ((w.alloc (.cells #[.int .i64 (lv : Int)] 3)).heap[w.heap.size]? = some (.cells #[.int .i64 (lv : Int)] 3 (0, 0))) := hide (heap_alloc_new w _)
  have HO0 := hide ((OutT.nil w).kept hb0)
  clear hb0 hKh hKd
  go_enter Tryz.func29, Tryz.ntmps29
  go_wp2_with fail
  go_loopw [0, 7] (fun lval ov wr => ∃ (r : List LnL) (A0 : Option Addr) (c0 : Nat) (T : Tr) (A1 : Option Addr) (c1 : Nat), lval = .slice A0 r.length c0 ∧ ov = .slice A1 T.len c1 ∧ r.length ≤ l.length ∧ Hid (LnIn w (.slice A0 r.length c0) r) ∧ Hid (OutT w.heap.size (.slice A1 T.len c1) T w wr) ∧ Hid (T.app (treeP (r.map (lowBy lv))) = treeP (l.map (lowBy lv))) ∧ Hid (∀ p ∈ r, lv ≤ p.1 ∧ p.1 ≤ 20) ∧ Hid (wr.heap[w.heap.size]? = some (.cells #[.int .i64 (lv : Int)] 3 (0, 0))) ∧ Hid (T.len + 2 * r.length ≤ 2 * l.length)) (fun lval _ _ => match lval with | .slice _ n _ => n | _ => 0)
  case atStart => exact ⟨l, A, c, .nil, none, 0, rfl, rfl, Nat.le_refl _, H, HO0, hide rfl, HL, HX0, hide (by simp [Tr.len])⟩
  case round =>
    obtain ⟨r, A0, c0, T, A1, c1, rfl, rfl, hrl, HR, HO, HT, HP, HX, HN⟩ := hrel
    by_cases hr : r = []
    · have h0 : r.length = 0 := by rw [hr]; rfl
      have t1 : decide ((0 : Int) < (r.length : Int)) = false := by rw [h0]; rfl
      have HT2 : Hid (T = treeP (l.map (lowBy lv))) := hide (by rw [← HT.out, hr]; exact (Tr.app_nil T).symm)
      have hn0 : ¬ (0 < r.length) := by omega
      clear hr h0
      go_wp2_with fail
      go_ret
      refine ⟨_, rfl, ?_, HO.out.below⟩
      have := HO.out.nodes
      rw [← HT2.out]
      exact this
    · obtain ⟨HRT, hless⟩ := round_tree lv r (fun p hp => (HP.out p hp).1)
      obtain ⟨a0, rfl, -, hcap, hmax, hat⟩ := HR.out.some hr
      unfold maxLen at hmax
      obtain ⟨ea1, ea2⟩ := take_while (isAt lv) r
      obtain ⟨eb1, eb2⟩ := take_while (isIn lv) (r.dropWhile (isAt lv))
      obtain ⟨na, hna⟩ : ∃ n, n = (r.takeWhile (isAt lv)).length := ⟨_, rfl⟩
      obtain ⟨nb, hnb⟩ : ∃ n, n = ((r.dropWhile (isAt lv)).takeWhile (isIn lv)).length := ⟨_, rfl⟩
      obtain ⟨x, hx⟩ : ∃ x, x = r.dropWhile (isAt lv) := ⟨_, rfl⟩
      obtain ⟨b, hb⟩ : ∃ b, b = x.takeWhile (isIn lv) := ⟨_, rfl⟩
      obtain ⟨y, hy⟩ : ∃ y, y = x.dropWhile (isIn lv) := ⟨_, rfl⟩
      obtain ⟨q, hq⟩ : ∃ q, q = r.takeWhile (isAt lv) := ⟨_, rfl⟩
      rw [← hx] at ea2 eb1 eb2 hnb HRT hless
      rw [← hb] at hnb eb1 eb2 HRT
      rw [← hy] at eb2 HRT hless
      rw [← hq] at hna ea1 ea2 HRT
      rw [← hna] at ea1 ea2
      rw [← hnb] at eb1 eb2
      have hle : na ≤ r.length := by rw [hna, hq]; exact takeWhile_len _ _
      have hxl : x.length = r.length - na := by rw [← ea2, List.length_drop]
      have hble : nb ≤ x.length := by rw [hnb, hb]; exact takeWhile_len _ _
      have hyl : y.length = x.length - nb := by rw [← eb2, List.length_drop]
      have hpos : 0 < r.length := List.length_pos_iff.2 hr
      have hless' := hless hr
      have hq2 : (saidP (q.map (·.2))).len ≤ 2 * na := by
        have := saidP_len (q.map (·.2)); rw [List.length_map] at this; omega
      have hcb : wr.cell? ⟨w.heap.size, 0, none⟩ = some (.int .i64 (lv : Int)) := (Lib.cell_of_heap HX.out 0).trans rfl
      have HC1 := hide (rowSize_any _ w.heap.size lv (isAt lv) HKH.out (here_any w.heap.size lv) _ r wr (HR.out.kept HO.out.below) (by omega) (fun p hp => (HP.out p hp).2) hcb)
      rw [← hq, ← hna] at HC1
      have HQIN : Hid (LnIn w (.slice (some a0) na c0) q) := hide (.inr ⟨a0, c0, by rw [← hna], by omega, by unfold maxLen; omega, by
        have := hat.take na
        rw [ea1] at this; exact this⟩)
      have HXIN : Hid (LnAt w (a0.add (na * 2)) x) := hide (by
        have := hat.drop na
        rw [ea2] at this; exact this)
      have HXL : Hid (x.length = r.length - na ∧ nb ≤ x.length ∧ y.length = x.length - nb ∧ b.length = nb ∧ y.length < r.length ∧ na ≤ r.length) := hide ⟨hxl, hble, hyl, hnb.symm, hless', hle⟩
      have HEB := hide (And.intro eb1 eb2)
      have HBD : Hid (b = x.takeWhile (isIn lv)) := hide hb
      have HPX : Hid (∀ p ∈ x, lv ≤ p.1 ∧ p.1 ≤ 20) := hide (fun p hp => HP.out p (by rw [← ea2] at hp; exact List.mem_of_mem_drop hp))
      have HPB : Hid (∀ p ∈ b, lv + 1 ≤ p.1 ∧ p.1 ≤ 20) := hide (fun p hp => by
        rw [hb] at hp
        exact ⟨of_decide_eq_true (while_all (isIn lv) x p hp), (HPX.out p ((List.takeWhile_sublist _).subset hp)).2⟩)
      have HPY : Hid (∀ p ∈ y, lv ≤ p.1 ∧ p.1 ≤ 20) := hide (fun p hp => HPX.out p (by rw [← eb2] at hp; exact List.mem_of_mem_drop hp))
      have HQ2 := hide hq2
      have HQN : Hid (q.length = na) := hide hna.symm
      have HCB := hide (And.intro hcap hmax)
      have HNE : Hid ((Value.slice A1 T.len c1).ownBlock ≠ some w.heap.size) := hide (by
        obtain ⟨ks, h1, _⟩ := HO.out.row
        exact ownsRow_other h1.row (r := w.heap.size) (fun cur e => by rw [HX.out] at e; injection e with e; injection e with _ e; exact absurd e (by decide)))
      have hna0 : (na : Int) ≤ c0 := by omega
      have hna1 : (na : Int) ≤ r.length := by omega
      have hnc : na ≤ c0 := by omega
      have t1 : decide ((0 : Int) < (r.length : Int)) = true := decide_eq_true (by omega)
      clear hxl hble hyl hnb hless' hb hy hq hx hna ea1 ea2 eb1 eb2 hless hq2 hat hcb hcap hmax
      replace HRT := hide HRT
      have HRL := hide hrl
      have HLN := hide hlen
      go_wp2_with fail
      refine HC1.out.mono ?_
      rintro e w1 ⟨rfl, hb1⟩
      have HB1 := hide hb1
      have HBW1 := hide (HO.out.below.trans (hb1.mono HO.out.size))
      have HS1 := hide (said_any _ q w1 (HQIN.out.kept HBW1.out) (by rw [HQN.out]; omega))
      clear hb1 HC1 HQIN
      go_wp2_with fail
      refine HS1.out.mono ?_
      rintro e w2 ⟨u2, rfl, hn2, hb2⟩
      obtain ⟨U, hU⟩ : ∃ U, U = saidP (q.map (·.2)) := ⟨_, rfl⟩
      rw [← hU] at hn2
      obtain ⟨A2, c2, rfl⟩ := hn2.form
      have HN2 : Hid (NodesC (FreshB wr.heap.size w2) w2 (.slice A2 U.len c2) U) := hide (FreshB.up hn2 HB1.out.size)
      have HB2 : Hid (Below wr.heap.size wr w2) := hide (bl_two HB1.out hb2)
      have HX2 : Hid (w2.heap[w.heap.size]? = some (.cells #[.int .i64 (lv : Int)] 3 (0, 0))) := hide ((HB2.out.block _ (lt_of_block HX.out)).trans HX.out)
      have HUL : Hid (U.len ≤ 2 * na ∧ T.len + U.len ≤ 1073741824) := hide ⟨by rw [hU]; exact HQ2.out, by have h1 := HQ2.out; rw [← hU] at h1; have h2 := HN.out; have h3 := HXL.out.2.2.2.2.2; omega⟩
      have HU := hide hU
      clear hn2 hb2 HS1 hU
      by_cases hcn : c0 = na
      · -- nothing is behind what is said
        have hxe : x = [] := List.eq_nil_of_length_eq_zero (by have := HXL.out; have := HCB.out; omega)
        have hx0 : x.length = 0 := by rw [hxe]; rfl
        have hnb0 : nb = 0 := by have := HXL.out; omega
        obtain ⟨nZ, hnZ⟩ : ∃ n, n = r.length - c0 := ⟨_, rfl⟩
        have HNZ : Hid (nZ = 0 ∧ y.length = 0) := hide (by have := HXL.out; omega)
        have HXV : Hid (LnIn w (.slice (some a0) nZ 0) x) := hide (.inr ⟨a0, 0, by rw [hxe, HNZ.out.1]; rfl, by rw [hxe]; exact Nat.le_refl _, Nat.zero_le _, by rw [hxe]; exact fun j p h => (by simp at h)⟩)
        have HZZ := hide hnZ
        have HYV : Hid (y = [] ∧ b = []) := hide (by have := HXL.out; exact ⟨List.eq_nil_of_length_eq_zero (by omega), List.eq_nil_of_length_eq_zero (by omega)⟩)
        have HNB := hide hnb0
        have HXE := hide hxe
        subst hcn
        clear hxe hnb0 hx0 hnZ
        go_wp2_with (
          refine wpList_outs rfl _ _ rfl w.heap.size (.slice A1 T.len c1) T w wr w2 rfl _ U HO.out HB2.out HN2.out rfl HUL.out.2 ?_
          intro v' w3 hO' hg' hw'
          obtain ⟨A3, c3, rfl⟩ := hO'.form
          obtain ⟨T3, hT3⟩ : ∃ X, X = T.app U := ⟨_, rfl⟩
          rw [← hT3] at hO'
          rw [← hT3]
          have HO3 := hide hO'
          have HT3 := hide hT3
          have HX3 : Hid (w3.heap[w.heap.size]? = some (.cells #[.int .i64 (lv : Int)] 3 (0, 0))) := hide ((hg'.block _ (lt_of_block HX2.out) (fun e => HNE.out e.symm)).trans HX2.out)
          clear hO' hT3 hg' hw')
        have HL3 : Hid (T3.len = T.len + U.len) := hide (by rw [HT3.out, ← Tr.len_list, Tr.list_app, List.length_append, Tr.len_list, Tr.len_list])
        have HTX : Hid (T3.app ((if b = [] then .nil else .cons quH (treeP (b.map (lowBy (lv + 1)))) .nil : Tr).app (treeP (y.map (lowBy lv)))) = treeP (l.map (lowBy lv))) := hide (by
          rw [← HT.out, HRT.out, HT3.out, HU.out, Tr.app_assoc, Tr.app_assoc])
        have hcb3 : w3.cell? ⟨w.heap.size, 0, none⟩ = some (.int .i64 (lv : Int)) := (Lib.cell_of_heap HX3.out 0).trans rfl
        have HC3 := hide (rowSize_any _ w.heap.size lv (isIn lv) HKD.out (deeper_any w.heap.size lv) _ x w3 (HXV.out.kept HO3.out.below) (by have := HXL.out; omega) (fun p hp => (HPX.out p hp).2) hcb3)
        rw [← HBD.out, HXL.out.2.2.2.1] at HC3
        clear hcb3 HB2 HX2 HN2 HUL HO HT HRT
        rw [← HZZ.out]
        (with_reducible refine HC3.out.mono ?_)
        rintro e w4 ⟨rfl, hb4⟩
        have HB4 := hide hb4
        have HO4 := hide (HO3.out.kept hb4)
        have HX4 : Hid (w4.heap[w.heap.size]? = some (.cells #[.int .i64 (lv : Int)] 3 (0, 0))) := hide ((hb4.block _ (lt_of_block HX3.out)).trans HX3.out)
        clear hb4 HC3
        have t4 : decide ((0 : Int) < (nb : Int)) = false := decide_eq_false (by have := HNB.out; omega)
        have t4n : ¬ (0 < nb) := by have := HNB.out; omega
        have hz0 : (nb : Int) ≤ 0 := by have := HNB.out; omega
        have hz1 : nb ≤ 0 := by have := HNB.out; omega
        have hz2 : nb = 0 := HNB.out
        have hz3 : (nb : Int) ≤ nZ := by have := HNB.out; omega
        have hz4 : nb ≤ nZ := by have := HNB.out; omega
        go_wp2_with fail
        go_roundw
        case rel =>
          have hy := HYV.out.1
          refine ⟨y, some a0, 0, T3, A3, c3, by first | rw [show nZ - nb = y.length from by have := HNZ.out; omega] | rw [show nZ = y.length from by have := HNZ.out; omega], rfl, by rw [hy]; exact Nat.zero_le _, hide ?_, HO4, hide ?_, HPY, HX4, hide ?_⟩
          · rw [hy]; exact .inr ⟨a0, 0, rfl, Nat.le_refl _, Nat.zero_le _, fun j p h => (by simp at h)⟩
          · have := HTX.out; rw [if_pos HYV.out.2] at this; exact this
          · have h1 := HL3.out; have h2 := HN.out; have h3 := HQ2.out; rw [hy]; rw [← HU.out] at h3; simp only [List.length_nil]; omega
        case measure => have := HXL.out; have := HNZ.out; simp only; omega
      · have hxl := HXL.out
        have hcb := HCB.out
        have hcn' : ¬ c0 = na := hcn
        have HXV : Hid (LnIn w (.slice (some (a0.add (na * 2))) (r.length - na) (c0 - na)) x) := hide (.inr ⟨_, c0 - na, by rw [hxl.1], by omega, by unfold maxLen; omega, HXIN.out⟩)
        clear hxl hcb
        go_wp2_with (
          refine wpList_outs rfl _ _ rfl w.heap.size (.slice A1 T.len c1) T w wr w2 rfl _ U HO.out HB2.out HN2.out rfl HUL.out.2 ?_
          intro v' w3 hO' hg' hw'
          obtain ⟨A3, c3, rfl⟩ := hO'.form
          obtain ⟨T3, hT3⟩ : ∃ X, X = T.app U := ⟨_, rfl⟩
          rw [← hT3] at hO'
          rw [← hT3]
          have HO3 := hide hO'
          have HT3 := hide hT3
          have HX3 : Hid (w3.heap[w.heap.size]? = some (.cells #[.int .i64 (lv : Int)] 3 (0, 0))) := hide ((hg'.block _ (lt_of_block HX2.out) (fun e => HNE.out e.symm)).trans HX2.out)
          clear hO' hT3 hg' hw')
        have HL3 : Hid (T3.len = T.len + U.len) := hide (by rw [HT3.out, ← Tr.len_list, Tr.list_app, List.length_append, Tr.len_list, Tr.len_list])
        have HTX : Hid (T3.app ((if b = [] then .nil else .cons quH (treeP (b.map (lowBy (lv + 1)))) .nil : Tr).app (treeP (y.map (lowBy lv)))) = treeP (l.map (lowBy lv))) := hide (by
          rw [← HT.out, HRT.out, HT3.out, HU.out, Tr.app_assoc, Tr.app_assoc])
        have hcb3 : w3.cell? ⟨w.heap.size, 0, none⟩ = some (.int .i64 (lv : Int)) := (Lib.cell_of_heap HX3.out 0).trans rfl
        have HC3 := hide (rowSize_any _ w.heap.size lv (isIn lv) HKD.out (deeper_any w.heap.size lv) _ x w3 (HXV.out.kept HO3.out.below) (by have := HXL.out; omega) (fun p hp => (HPX.out p hp).2) hcb3)
        rw [← HBD.out, HXL.out.2.2.2.1] at HC3
        clear hcb3 HB2 HX2 HN2 HUL HO HT HRT
        (with_reducible refine HC3.out.mono ?_)
        rintro e w4 ⟨rfl, hb4⟩
        have HB4 := hide hb4
        have HO4 := hide (HO3.out.kept hb4)
        have HX4 : Hid (w4.heap[w.heap.size]? = some (.cells #[.int .i64 (lv : Int)] 3 (0, 0))) := hide ((hb4.block _ (lt_of_block HX3.out)).trans HX3.out)
        clear hb4 HC3
        obtain ⟨AX, hAX⟩ : ∃ AX, AX = a0.add (na * 2) := ⟨_, rfl⟩
        obtain ⟨nX, hnX⟩ : ∃ nX, nX = r.length - na := ⟨_, rfl⟩
        obtain ⟨cX, hcX⟩ : ∃ cX, cX = c0 - na := ⟨_, rfl⟩
        have HNX : Hid (nX = x.length ∧ nX ≤ cX ∧ cX ≤ 2 ^ 63 - 1) := hide (by have := HXL.out; have := HCB.out; omega)
        rw [← hAX, ← hnX, ← hcX] at HXV ⊢
        have HAX := hide (And.intro hAX (And.intro hnX hcX))
        clear hAX hnX hcX hcn' hcn
        have hz0 : (nb : Int) ≤ cX := by have := HNX.out; have := HXL.out; omega
        have hz1 : nb ≤ cX := by have := HNX.out; have := HXL.out; omega
        have hz2 : (nb : Int) ≤ nX := by have := HNX.out; have := HXL.out; omega
        have HYD : Hid (cX ≠ nb → LnIn w (.slice (some (AX.add (nb * 2))) (nX - nb) (cX - nb)) y) := hide (fun hne => .inr ⟨_, cX - nb, by rw [HXL.out.2.2.1, HNX.out.1], by have := HXL.out; have := HNX.out; omega, by unfold maxLen; have := HNX.out; omega, by
          obtain ⟨a', e1, _, _, _, h4⟩ : ∃ a', some AX = some a' ∧ True ∧ True ∧ True ∧ LnAt w a' x := by
            rcases HXV.out with ⟨h0, _⟩ | ⟨a', cap', h0, _, _, h4⟩
            · cases h0
            · injection h0 with h0 _ _
              exact ⟨a', h0, trivial, trivial, trivial, h4⟩
          injection e1 with e1
          subst e1
          have := h4.drop nb
          rw [HEB.out.2] at this; exact this⟩)
        have HYN : Hid (cX = nb → y = []) := hide (fun he => List.eq_nil_of_length_eq_zero (by have := HXL.out; have := HNX.out; omega))
        have HYL : Hid (nX - nb = y.length) := hide (by have := HXL.out; have := HNX.out; omega)
        by_cases hnb : nb = 0
        · have t4 : decide ((0 : Int) < (nb : Int)) = false := decide_eq_false (by omega)
          have t4n : ¬ (0 < nb) := by omega
          have HBE : Hid (b = []) := hide (List.eq_nil_of_length_eq_zero (by have := HXL.out; omega))
          have HTY : Hid (T3.app (treeP (y.map (lowBy lv))) = treeP (l.map (lowBy lv))) := hide (by have := HTX.out; rw [if_pos HBE.out] at this; exact this)
          have HNB := hide hnb
          clear hnb
          have HTL : Hid (T3.len + 2 * y.length ≤ 2 * l.length) := hide (by have h1 := HL3.out; have h2 := HN.out; have h3 := HQ2.out; rw [← HU.out] at h3; have h4 := HXL.out; omega)
          by_cases hce : cX = nb
          · have HYE := hide (HYN.out hce)
            subst hce
            go_wp2_with fail
            go_roundw
            case rel =>
              have hy := HYE.out
              refine ⟨y, some AX, 0, T3, A3, c3, by rw [HYL.out], rfl, by rw [hy]; exact Nat.zero_le _, hide ?_, HO4, HTY, HPY, HX4, HTL⟩
              rw [hy]; exact .inr ⟨AX, 0, rfl, Nat.le_refl _, Nat.zero_le _, fun j p h => (by simp at h)⟩
            case measure => have h1 := HXL.out; have h2 := HYL.out; simp only; omega
          · have HYI := hide (HYD.out hce)
            rw [HYL.out] at HYI
            go_wp2_with fail
            go_roundw
            case rel => exact ⟨y, some (AX.add (nb * 2)), cX - nb, T3, A3, c3, by rw [HYL.out], rfl, by have h1 := HXL.out; have h2 := HRL.out; omega, HYI, HO4, HTY, HPY, HX4, HTL⟩
            case measure => have h1 := HXL.out; have h2 := HYL.out; simp only; omega
        · have t4 : decide ((0 : Int) < (nb : Int)) = true := decide_eq_true (by omega)
          have hnp : 0 < nb := by omega
          have hbne : b ≠ [] := fun e => by have := HXL.out; rw [e] at this; simp at this; omega
          have HBX : Hid (∀ w', Below w.heap.size w w' → LnIn w' (.slice (some AX) nb cX) b) := hide (fun w' hw' => by
            rcases HXV.out with ⟨h0, _⟩ | ⟨a', cap', h0, _, _, h4⟩
            · cases h0
            · injection h0 with h0 _ _
              injection h0 with h0
              subst h0
              refine .inr ⟨AX, cX, by rw [HXL.out.2.2.2.1], by have := HXL.out; have := HNX.out; omega, by unfold maxLen; have := HNX.out; omega, ?_⟩
              have := (h4.kept hw').take nb
              rw [HEB.out.1] at this; exact this)
          have HCN : Hid (∀ w', Below w.heap.size w w' → Calls Tryz.prog 29 #[.slice (some AX) nb cX, .int .i64 ((lv : Int) + 1)] w' fun e w'' => ∃ u, e = .returned u ∧ NodesC (FreshB w'.heap.size w'') w'' u (treeP (b.map (lowBy (lv + 1)))) ∧ Below w'.heap.size w' w'') := hide (fun w' hw' => HIH.out _ b w' hbne (by have := HXL.out; have := HRL.out; have := HLN.out; omega) HPB.out (HBX.out w' hw'))
          have HTY : Hid ((T3.app (.cons quH (treeP (b.map (lowBy (lv + 1)))) .nil)).app (treeP (y.map (lowBy lv))) = treeP (l.map (lowBy lv))) := hide (by have := HTX.out; rw [if_neg hbne] at this; rw [Tr.app_assoc]; exact this)
          have HNB := hide hnb
          have hcb4 : w4.cell? ⟨w.heap.size, 0, none⟩ = some (.int .i64 (lv : Int)) := (Lib.cell_of_heap HX4.out 0).trans rfl
          have hcb4d : w4.drew.cell? ⟨w.heap.size, 0, none⟩ = some (.int .i64 (lv : Int)) := hcb4
          have HOD := hide (HO4.out.kept (below_drew w4))
          have HXD : Hid (w4.drew.heap[w.heap.size]? = some (.cells #[.int .i64 (lv : Int)] 3 (0, 0))) := HX4
          have HCD := hide (HCN.out w4.drew HOD.out.below)
          have HLV : Hid ((lv : Int) + 1 ≤ 21) := hide (by omega)
          have hwr : wrap64 ((lv : Int) + 1) = (lv : Int) + 1 := wrap64_self (by omega) (by omega)
          have hwr2 : IntKind.i64.wrap ((lv : Int) + 1) = (lv : Int) + 1 := IntWalk.i64_in _ (by omega)
          have HT3L : Hid (T3.len + 1 ≤ 1073741824) := hide (by have h1 := HL3.out; have h2 := HN.out; have h3 := HQ2.out; rw [← HU.out] at h3; have h4 := HXL.out; have h5 := HRL.out; have h6 := HLN.out; omega)
          have HNE3 : Hid ((Value.slice A3 T3.len c3).ownBlock ≠ some w.heap.size) := hide (by
            obtain ⟨ks, h1, _⟩ := HOD.out.row
            exact ownsRow_other h1.row (r := w.heap.size) (fun cur e => by rw [HXD.out] at e; injection e with e; injection e with _ e; exact absurd e (by decide)))
          have HTL : Hid (T3.len + 1 + 2 * y.length ≤ 2 * l.length) := hide (by have h1 := HL3.out; have h2 := HN.out; have h3 := HQ2.out; rw [← HU.out] at h3; have h4 := HXL.out; omega)
          clear hnb hbne HCN HBX HX4 HO4
          go_wp2_with fail
          go_region_law (first
            | (refine step_out rfl _ _ rfl w.heap.size (.slice A3 T3.len c3) T3 w w4.drew w5 rfl quoN [] _ _ HOD.out HB5.out HN5.out ?_ ?_ ?_ _ rfl rfl HT3L.out ?_
               · exact below_one w5 _
               · exact World.size_alloc ..
               · exact heap_alloc_new w5 _
               intro v' w6 hO' hg' hw'
               obtain ⟨A6, c6, rfl⟩ := hO'.form
               obtain ⟨T6, hT6⟩ : ∃ X, X = T3.app (.cons ⟨quoN, [], []⟩ (treeP (b.map (lowBy (lv + 1)))) .nil) := ⟨_, rfl⟩
               rw [← hT6] at hO'
               rw [← hT6]
               have HO6 := hide hO'
               have HT6 := hide hT6
               have HX6 : Hid (w6.heap[w.heap.size]? = some (.cells #[.int .i64 (lv : Int)] 3 (0, 0))) := hide ((hg'.block _ (Nat.lt_of_lt_of_le (lt_of_block HX5.out) (below_one w5 _).size) (fun e => HNE3.out e.symm)).trans (((below_one w5 _).block _ (lt_of_block HX5.out)).trans HX5.out))
               clear hO' hT6 hg' hw')
            | (go_simp; (with_reducible refine HCD.out.mono ?_); rintro e w5 ⟨u5, rfl, hn5, hb5⟩; obtain ⟨A5, c5, rfl⟩ := hn5.form; have HN5 := hide hn5; have HB5 := hide hb5; have HX5 : Hid (w5.heap[w.heap.size]? = some (.cells #[.int .i64 (lv : Int)] 3 (0, 0))) := hide ((hb5.block _ (lt_of_block HXD.out)).trans HXD.out); clear hn5 hb5))
          all_goals
            have HT6L : Hid (T6.len = T3.len + 1) := hide (by rw [HT6.out, ← Tr.len_list, Tr.list_app, List.length_append, Tr.len_list]; simp [Tr.list])
            rw [show (T3.app (.cons quH (treeP (b.map (lowBy (lv + 1)))) .nil)) = T6 from HT6.out.symm] at HTY
            replace HTL : Hid (T6.len + 2 * y.length ≤ 2 * l.length) := hide (by have h1 := HTL.out; have h2 := HT6L.out; omega)
            by_cases hce : cX = nb
            · have HYE := hide (HYN.out hce)
              subst hce
              go_wp2_with fail
              go_roundw
              case rel =>
                have hy := HYE.out
                refine ⟨y, some AX, 0, T6, A6, c6, by rw [HYL.out], rfl, by rw [hy]; exact Nat.zero_le _, hide ?_, HO6, HTY, HPY, HX6, HTL⟩
                rw [hy]; exact .inr ⟨AX, 0, rfl, Nat.le_refl _, Nat.zero_le _, fun j p h => (by simp at h)⟩
              case measure => have h1 := HXL.out; have h2 := HYL.out; simp only; omega
            · have HYI := hide (HYD.out hce)
              rw [HYL.out] at HYI
              go_wp2_with fail
              go_roundw
              case rel => exact ⟨y, some (AX.add (nb * 2)), cX - nb, T6, A6, c6, by rw [HYL.out], rfl, by have h1 := HXL.out; have h2 := HRL.out; omega, HYI, HO6, HTY, HPY, HX6, HTL⟩
              case measure => have h1 := HXL.out; have h2 := HYL.out; simp only; omega
theorem nodes_all : ∀ d lv, 21 ≤ lv + d → NodesQ lv
  | 0, lv, h => fun v l w hne _ hl _ => by
    obtain ⟨p, q, rfl⟩ := List.exists_cons_of_ne_nil hne
    have := hl p (List.mem_cons_self ..)
    omega
  | d + 1, lv, h => fun v l w hne hlen hl hin => by
    obtain ⟨p, q, e⟩ := List.exists_cons_of_ne_nil hne
    have := hl p (by rw [e]; exact List.mem_cons_self ..)
    exact nodes_step lv (nodes_all d (lv + 1) (by omega)) v l w hlen hl hin (by omega)
theorem nodes_any (v : Value) (l : List LnL) (w : World) (hlen : l.length ≤ 1000000) (hl : ∀ p ∈ l, p.1 ≤ 20) (hin : LnIn w v l) :
    Calls Tryz.prog 29 #[v, .int .i64 0] w fun e w' => ∃ u, e = .returned u ∧ NodesC (FreshB w.heap.size w') w' u (treeP l) ∧ Below w.heap.size w w' := by
  have := nodes_step 0 (nodes_all 20 1 (by omega)) v l w hlen (fun p hp => ⟨Nat.zero_le _, hl p hp⟩) hin (by omega)
  rw [lowBy_zero] at this
  exact this
end Go.Proofs.YtiejmkjpgjbodaaGreatDoor

namespace Go.Proofs.YtiejmkjpgjbodaaGreatDoor
open Go.RowKit Go.Shelf
set_option linter.unusedVariables false
set_option linter.unusedSimpArgs false
set_option maxRecDepth 100000
attribute [local go_sem] Oper.semAt_some
def lineV (pre : List FieldL) : List Value := lineVals (pre.map (·.1))
theorem lineV_snoc (pre : List FieldL) (x : FieldL) : lineV (pre ++ [x]) = lineV pre ++ [.string (str x.1)] := by unfold lineV; rw [List.map_append]; exact lineVals_snoc _ _
set_option maxHeartbeats 2000000 in
theorem cut_in (n : Nat) (hn : 3 ≤ n) (s : ByteArray) (hs : s.size ≤ 1048576) (w : World) :
    CallsIn Fence.wide n Tryz.prog 28 #[.string s] w fun e W' => ∃ v, e = .returned v ∧ W'.ownsRow w.heap.size 9 1 v (cutL s.data.toList).length (lineVals (cutL s.data.toList)) ∧ Below w.heap.size w W' := by
  have h1 : 1 ≤ n := by omega
  obtain ⟨i0, hi, hz0, hz1, hz2⟩ := info_parts info_str
  refine callsIn_of_wp_marks Tryz.func28 rfl trivial ?_ rfl
  simp only [Tryz.ntmps28, List.size_toArray, List.length_cons, List.length_nil, Nat.reduceAdd, Nat.reduceSub, Array.replicate_succ, Array.replicate_zero, List.push_toArray, List.append_toArray, List.nil_append, List.cons_append]
  gi_wp2
  refine ⟨trivial, (each_in (n - 1) (by omega) s _).mono ?_⟩
  rintro e w' ⟨rfl, rfl⟩
  gi_wp2
  have bO := Boxed.new w 37 (.slice none 0 0)
  have bS := Boxed.new (w.alloc (.cells #[.slice none 0 0] 37)) 9 (.string s)
  rw [World.size_alloc] at bS
  have hB0 : Below w.heap.size w ((w.alloc (.cells #[.slice none 0 0] 37)).alloc (.cells #[.string s] 9)) := ((Below.refl _ w).alloc (Nat.le_refl _) _).alloc (by simp) _
  refine wpIn_rangeFunc_ownG rfl h1 (gf := 112) (lb := #[.pointer (some ⟨w.heap.size + 1, 0, none⟩)]) rfl trivial (enters_of Tryz.func112 (by kernel_rfl) rfl)
    (each_stops (n - 1) (by omega) (w.heap.size + 1) s (by omega) _ (by simp) bS.cell) walksK_t (fun W l o o' _ h _ hw => KeepsWalks.putObj _ h hw) (Below.refl _ _) (fun _ => rfl)
    (fun pre W => (∃ v, Boxed W w.heap.size 37 v ∧ W.ownsRow w.heap.size 9 1 v pre.length (lineV pre) ∧ True) ∧ Below w.heap.size w W)
    (fun _ _ _ => False)
    (OwnFrom.and (Own.from (holdsRow_own w.heap.size w.heap.size 37 9 1 (fun pre : List FieldL => pre.length) (fun pre => lineV pre) (fun _ _ => True)) _) (ownFrom_below (Nat.le_refl _) (by simp; omega)))
    (fun _ _ _ _ _ hs _ _ => hs)
    ⟨⟨_, bO.alloc _, World.ownsRow_nil _ _ _ _, trivial⟩, hB0⟩
    (fun x => { tmps := #[.string s, undef, .slice none 0 0, .pointer (some ⟨w.heap.size, 0, none⟩), .string (str x.1), .string s, .func (.func 112) #[] #[.pointer (some ⟨w.heap.size + 1, 0, none⟩)], .string (str x.1), .string (str x.2), undef, undef, undef, undef, undef], defers := [] }) ?assign ?body ?done ?stop
  case assign =>
    intro l x W K hK
    gi_wp2
    exact hK
  case body =>
    rintro l pre x W ⟨⟨v, hv, hrow, _⟩, hB⟩ hlt
    have hc := hv.cell
    gi_wp2_with (gi_at_builtin; refine wpListIn_append_own _ rfl _ _ 37 rfl w.heap.size 9 i0 (.string ByteArray.empty) 1 16 Tryz.underlying37 hi hz0 hz1 hz2 rfl (by decide) _ _ _ rfl (hrow.alloc _) ⟨W.heap.size, 0, none⟩ 1 1 [.string (str x.1)] rfl rfl (cell_one_new _ _ _) (by simp [Value.oneCell']) (by unfold maxLen; omega) (by omega) (by have := hB.size; simp; omega) ?_; intro v' w1 hown' hgrow _; obtain ⟨g', cap', rfl⟩ := ownsRow_succ hown'; obtain ⟨hv1, hv2, hr2, hk2, hb2⟩ := hv.appended (by decide) hrow hB.size (Nat.le_refl _) hown' hgrow; have hc1 := hv1.cell; have hf1 := hv1.frozen)
    exact ⟨hk2.from _, hk2.walks, ⟨_, hv2, by rw [lineV_snoc]; simpa using hr2, trivial⟩, hB.trans hb2⟩
  case done =>
    rintro D ys W hD rfl ⟨⟨v, hv, hrow, _⟩, hB⟩ hK
    have hc := hv.cell
    gi_wp2
    refine ⟨by simp, .inl ⟨_, _, rfl, run_takeDeferred hK, ?_⟩⟩
    refine ⟨_, results_tmp rfl _ _ _, v, rfl, ?_, hB.trans (belowK_b (w := w) (Nat.le_refl _) W D _ _ (by simp at hD; omega) hK rfl rfl)⟩
    have := ownsRow_putObj hrow (.deferred none) hK rfl
    rw [← each_cut]
    rw [List.length_map]
    exact this
  case stop =>
    rintro D c pre W _ _ h _
    exact h.elim
theorem cut_any06 (s : ByteArray) (hs : s.size ≤ 1048576) (w : World) :
    Calls Tryz.prog 28 #[.string s] w fun e W' => ∃ v, e = .returned v ∧ SBuf w.heap.size v ((cutL s.data.toList).map str) w W' := by
  refine (callsIn_wide (n := 3)).1 ((cut_in 3 (by omega) s hs w).mono ?_)
  rintro e W' ⟨v, rfl, ho, hb⟩
  refine ⟨v, rfl, ?_, hb, hb.size⟩
  rw [List.length_map]
  exact ho
end Go.Proofs.YtiejmkjpgjbodaaGreatDoor

namespace Go.Proofs.YtiejmkjpgjbodaaGreatDoor
open Go.RowKit
set_option linter.unusedVariables false
set_option linter.unusedSimpArgs false
set_option maxRecDepth 100000
theorem cutL_size (l : List UInt8) : ∀ x ∈ cutL l, x.length ≤ l.length := fun x hx => by
  have h := (cutL_sizes l).2
  have h2 : ∀ (L : List (List UInt8)), x ∈ L → x.length ≤ (L.map List.length).sum := fun L hL => by
    induction L with
    | nil => cases hL
    | cons y r ih =>
      simp only [List.map_cons, List.sum_cons]
      rcases List.mem_cons.1 hL with rfl | hL
      · omega
      · have := ih hL; omega
  exact Nat.le_trans (h2 _ hx) h
set_option maxHeartbeats 2000000 in
theorem plainTree_any (s : ByteArray) (w : World) (hs : s.size ≤ 1000000) :
    Calls Tryz.prog 8 #[.string s] w fun e w' => ∃ u, e = .returned u ∧ NodesC (FreshB w.heap.size w') w' u (plainP s.data.toList) ∧ Below w.heap.size w w' := by
  obtain ⟨q1, q2⟩ := cutL_sizes s.data.toList
  rw [toList_length] at q1 q2
  have HQ3 := hide (cutL_size s.data.toList)
  obtain ⟨L, hL⟩ : ∃ L, L = cutL s.data.toList := ⟨_, rfl⟩
  have HC := hide (cut_any06 s (by omega) w)
  rw [← hL] at q1 q2 HQ3 HC
  have HPL : Hid (plainP s.data.toList = treeP (L.map levelL)) := hide (by rw [hL]; rfl)
  have HQ2 := hide q2
  clear q2 hL
  go_enter Tryz.func8, Tryz.ntmps8
  go_wp2_with fail
  refine HC.out.mono ?_
  rintro e w1 ⟨v1, rfl, hb1⟩
  have HB1 := hide hb1
  obtain ⟨A0, c0, rfl⟩ := hb1.slice_len
  have hform := hb1.form
  have HF := hide hform
  rw [List.length_map]
  have HL0 : Hid (L.length ≤ 1000000) := hide (by omega)
  clear hb1 HC hform
  go_wp2_with fail
  go_loopw [3, 11] (fun ov i wr => ∃ (k : Nat) (A1 : Option Addr) (c1 : Nat), k ≤ L.length ∧ i = .int .i64 k ∧ ov = .slice A1 k c1 ∧ Hid (LnRow w1.heap.size (.slice A1 k c1) ((L.map levelL).take k) wr) ∧ Hid (Below w1.heap.size w1 wr)) (fun _ i _ => L.length - (intOf i).toNat)
  case atStart => exact ⟨0, none, 0, Nat.zero_le _, rfl, rfl, hide (World.ownsRow_nil _ _ _ 2), hide (Below.refl _ _)⟩
  case round =>
    obtain ⟨k, A1, c1, hk, rfl, rfl, HR, HB⟩ := hrel
    by_cases hlt : k < L.length
    · obtain ⟨x, hx⟩ : ∃ x, L[k]? = some x := ⟨_, List.getElem?_eq_getElem hlt⟩
      have hxl : x.length ≤ s.size := by
        have := HQ3.out x (List.mem_of_getElem? hx); rw [toList_length] at this; exact this
      obtain ⟨g, rfl, hcell⟩ : ∃ g, A0 = some ⟨g, 0, none⟩ ∧ w1.cell? ⟨g, k, none⟩ = some (.string (str x)) := by
        rcases HF.out with ⟨_, h⟩ | ⟨g, cap, h1, _, _, _, _, h6⟩
        · have := congrArg List.length h; rw [List.length_map, List.length_nil] at this; omega
        · injection h1 with h1 _ _
          refine ⟨g, h1, ?_⟩
          have := h6 k (str x) (by rw [List.getElem?_map, hx]; rfl)
          rw [Nat.zero_add] at this; exact this
      have hc1 : wr.cell? ⟨g, k, none⟩ = some (.string (str x)) := (HB.out.cell (World.block_lt_of_cell? _ _ hcell)).trans hcell
      have HV := hide (level_any (str x) wr (by rw [str_size]; omega))
      rw [str_toList] at HV
      have HN : Hid ((L.map levelL).take k ++ [levelL x] = (L.map levelL).take (k + 1)) := hide (by rw [List.take_add_one, List.getElem?_map, hx]; rfl)
      have HTK : Hid (((L.map levelL).take k).length = k) := hide (by rw [List.length_take, List.length_map]; omega)
      obtain ⟨p, hp⟩ : ∃ p, p = levelL x := ⟨_, rfl⟩
      rw [← hp] at HV HN
      unfold levelV at HV
      have HSZ : Hid (w1.heap.size ≤ wr.heap.size) := hide HB.out.size
      clear hx hxl hcell hp
      go_wp2_with fail
      refine HV.out.mono ?_
      rintro e w2 ⟨rfl, rfl⟩
      go_wp2_with (
        refine wpList_lns rfl _ _ rfl w1.heap.size (.slice A1 k c1) ((L.map levelL).take k) rfl p (HR.out.alloc _) (Nat.le_trans HSZ.out (below_one w2 _).size) _ rfl (two_ln _ _ _ _).1 (two_ln _ _ _ _).2 (by rw [HTK.out]; have := HL0.out; omega) ?_
        intro v' w3 hO' hg' hor'
        have hB3 : Below w1.heap.size w1 w3 := (HB.out.trans ((below_one w2 _).mono HSZ.out)).grown hg' (Nat.le_trans HSZ.out (below_one w2 _).size) (fun k e => (World.ownsRow.lt HR.out k e).1)
        obtain ⟨A3, c3, rfl⟩ : ∃ A3 c3, v' = .slice A3 (k + 1) c3 := by
          obtain ⟨A, c, h⟩ := (LnRow.in hO').form
          rw [h, List.length_append, HTK.out]; exact ⟨_, _, rfl⟩
        rw [HN.out] at hO'
        have HO3 := hide hO'
        have HB3 := hide hB3
        clear hO' hg' hor' hB3)
      go_roundw
      case rel => exact ⟨k + 1, A3, c3, by omega, by go_num, rfl, HO3, HB3⟩
      case measure => simp [intOf]; omega
    · obtain rfl : k = L.length := by omega
      have HR2 := HR.out
      rw [List.take_of_length_le (by rw [List.length_map]; exact Nat.le_refl _)] at HR2
      have HG := hide (nodes_any (.slice A1 L.length c1) (L.map levelL) wr (by rw [List.length_map]; exact HL0.out) (fun p hp => by obtain ⟨x, _, rfl⟩ := List.mem_map.1 hp; exact (levelL_le x).1) HR2.in)
      have HB2 : Hid (Below w.heap.size w wr) := hide (HB1.out.below.trans (HB.out.mono HB1.out.2.2))
      clear HR2
      go_wp2_with fail
      refine HG.out.mono ?_
      rintro e w2 ⟨u, rfl, hn, hb2⟩
      have HN2 : Hid (NodesC (FreshB w.heap.size w2) w2 u (treeP (L.map levelL))) := hide (FreshB.up hn HB2.out.size)
      have HB3 := hide (bl_two HB2.out hb2)
      clear hn hb2
      go_wp2_with fail
      go_ret
      exact ⟨_, rfl, by rw [HPL.out]; exact HN2.out, HB3.out⟩
end Go.Proofs.YtiejmkjpgjbodaaGreatDoor


namespace Go.Proofs.YtiejmkjpgjbodaaGreatDoor
open Go.RowKit
set_option linter.unusedVariables false
set_option linter.unusedSimpArgs false
set_option maxRecDepth 100000
def cT : Tr := .cons (txH [99]) .nil .nil
def bqT : Tr := .cons (txH [98]) .nil (.cons quH cT .nil)
def live20T : Tr := .cons (txH [97]) .nil (.cons brH .nil (.cons quH bqT (.cons (txH [100]) .nil (.cons brH .nil (.cons (txH [101]) .nil .nil)))))
theorem live20_tree : plainP [97, 10, 10, 62, 32, 98, 10, 62, 62, 32, 99, 10, 100, 13, 10, 101] = live20T := by decide +kernel
theorem live20_text : plainT live20T = [97, 10, 62, 32, 98, 10, 62, 32, 62, 32, 99, 10, 100, 10, 101] := by decide +kernel
theorem live20_level : levelL [62, 32, 62, 32, 32, 120] = (2, [32, 120]) := by decide +kernel
def l20c : Array Value := #[.string ⟨#[]⟩, .slice none 0 0, .string ⟨#[99]⟩, .slice none 0 0]
def l20b (g : Nat) : Array Value := #[.string ⟨#[]⟩, .slice none 0 0, .string ⟨#[98]⟩, .slice none 0 0, .string ⟨#[98, 108, 111, 99, 107, 113, 117, 111, 116, 101]⟩, .slice none 0 0, .string ⟨#[]⟩, .slice (some ⟨g, 0, none⟩) 1 1]
def l20a (g : Nat) : Array Value := #[.string ⟨#[]⟩, .slice none 0 0, .string ⟨#[97]⟩, .slice none 0 0, .string ⟨#[98, 114]⟩, .slice none 0 0, .string ⟨#[]⟩, .slice none 0 0,
  .string ⟨#[98, 108, 111, 99, 107, 113, 117, 111, 116, 101]⟩, .slice none 0 0, .string ⟨#[]⟩, .slice (some ⟨g, 0, none⟩) 2 2, .string ⟨#[]⟩, .slice none 0 0, .string ⟨#[100]⟩, .slice none 0 0,
  .string ⟨#[98, 114]⟩, .slice none 0 0, .string ⟨#[]⟩, .slice none 0 0, .string ⟨#[]⟩, .slice none 0 0, .string ⟨#[101]⟩, .slice none 0 0]
theorem l20_c {w : World} {g : Nat} (h : w.heap[g]? = some (.cells l20c 33 (0, 0))) : NodesIn w (.slice (some ⟨g, 0, none⟩) 1 1) cT := by
  have hlt := lt_of_block h
  exact .inr ⟨⟨g, 0, none⟩, 1, rfl, Nat.le_refl _, by decide, ⟨hlt, (Lib.cell_of_heap h 0).trans rfl, (Lib.cell_of_heap h 2).trans rfl, ⟨_, (Lib.cell_of_heap h 1).trans rfl, attrsC_none _ _⟩, ⟨_, (Lib.cell_of_heap h 3).trans rfl, nodesC_none _ _⟩, trivial⟩⟩
theorem l20_b {w : World} {g g2 : Nat} (h : w.heap[g]? = some (.cells (l20b g2) 33 (0, 0))) (h2 : w.heap[g2]? = some (.cells l20c 33 (0, 0))) : NodesIn w (.slice (some ⟨g, 0, none⟩) 2 2) bqT := by
  have hlt := lt_of_block h
  exact .inr ⟨⟨g, 0, none⟩, 2, rfl, Nat.le_refl _, by decide, ⟨hlt, (Lib.cell_of_heap h 0).trans rfl, (Lib.cell_of_heap h 2).trans rfl, ⟨_, (Lib.cell_of_heap h 1).trans rfl, attrsC_none _ _⟩, ⟨_, (Lib.cell_of_heap h 3).trans rfl, nodesC_none _ _⟩,
    ⟨hlt, (Lib.cell_of_heap h 4).trans rfl, (Lib.cell_of_heap h 6).trans rfl, ⟨_, (Lib.cell_of_heap h 5).trans rfl, attrsC_none _ _⟩, ⟨_, (Lib.cell_of_heap h 7).trans rfl, l20_c h2⟩, trivial⟩⟩⟩
theorem l20_a {w : World} {g g2 g3 : Nat} (h : w.heap[g]? = some (.cells (l20a g2) 33 (0, 0))) (h2 : w.heap[g2]? = some (.cells (l20b g3) 33 (0, 0))) (h3 : w.heap[g3]? = some (.cells l20c 33 (0, 0))) : NodesIn w (.slice (some ⟨g, 0, none⟩) 6 6) live20T := by
  have hlt := lt_of_block h
  have hB := l20_b h2 h3
  exact .inr ⟨⟨g, 0, none⟩, 6, rfl, Nat.le_refl _, by decide,
    ⟨hlt, (Lib.cell_of_heap h 0).trans rfl, (Lib.cell_of_heap h 2).trans rfl, ⟨_, (Lib.cell_of_heap h 1).trans rfl, attrsC_none _ _⟩, ⟨_, (Lib.cell_of_heap h 3).trans rfl, nodesC_none _ _⟩,
    ⟨hlt, (Lib.cell_of_heap h 4).trans rfl, (Lib.cell_of_heap h 6).trans rfl, ⟨_, (Lib.cell_of_heap h 5).trans rfl, attrsC_none _ _⟩, ⟨_, (Lib.cell_of_heap h 7).trans rfl, nodesC_none _ _⟩,
    ⟨hlt, (Lib.cell_of_heap h 8).trans rfl, (Lib.cell_of_heap h 10).trans rfl, ⟨_, (Lib.cell_of_heap h 9).trans rfl, attrsC_none _ _⟩, ⟨_, (Lib.cell_of_heap h 11).trans rfl, hB⟩,
    ⟨hlt, (Lib.cell_of_heap h 12).trans rfl, (Lib.cell_of_heap h 14).trans rfl, ⟨_, (Lib.cell_of_heap h 13).trans rfl, attrsC_none _ _⟩, ⟨_, (Lib.cell_of_heap h 15).trans rfl, nodesC_none _ _⟩,
    ⟨hlt, (Lib.cell_of_heap h 16).trans rfl, (Lib.cell_of_heap h 18).trans rfl, ⟨_, (Lib.cell_of_heap h 17).trans rfl, attrsC_none _ _⟩, ⟨_, (Lib.cell_of_heap h 19).trans rfl, nodesC_none _ _⟩,
    ⟨hlt, (Lib.cell_of_heap h 20).trans rfl, (Lib.cell_of_heap h 22).trans rfl, ⟨_, (Lib.cell_of_heap h 21).trans rfl, attrsC_none _ _⟩, ⟨_, (Lib.cell_of_heap h 23).trans rfl, nodesC_none _ _⟩, trivial⟩⟩⟩⟩⟩⟩⟩
theorem l20_world (w : World) : NodesIn (((w.alloc (.cells l20c 33)).alloc (.cells (l20b w.heap.size) 33)).alloc (.cells (l20a (w.heap.size + 1)) 33)) (.slice (some ⟨w.heap.size + 1 + 1, 0, none⟩) 6 6) live20T ∧ Below w.heap.size w (((w.alloc (.cells l20c 33)).alloc (.cells (l20b w.heap.size) 33)).alloc (.cells (l20a (w.heap.size + 1)) 33)) :=
  ⟨l20_a (three3 w _ _ _) (three2 w _ _ _) (three1 w _ _ _), by
    have h := three_below w (.cells l20c 33) (.cells (l20b w.heap.size) 33) (.cells (l20a (w.heap.size + 1)) 33)
    exact ⟨h.os, h.tape, h.output, h.size, h.block⟩⟩
set_option maxHeartbeats 8000000 in
theorem live20_any (w : World) :
    Calls Tryz.prog 7 #[] w fun e w' => e = .returned (.bool true) ∧ Below w.heap.size w w' := by
  have HT := hide (plainTree_any ⟨#[97, 10, 10, 62, 32, 98, 10, 62, 62, 32, 99, 10, 100, 13, 10, 101]⟩ w (by decide))
  rw [show plainP (⟨#[97, 10, 10, 62, 32, 98, 10, 62, 62, 32, 99, 10, 100, 13, 10, 101]⟩ : ByteArray).data.toList = live20T from live20_tree] at HT
  go_enter Tryz.func7, Tryz.ntmps7
  go_wp2_with fail
  refine HT.out.mono ?_
  rintro e w1 ⟨u, rfl, hn1, hb1⟩
  have HN1 : Hid (NodesIn w1 u live20T) := hide (hn1.mono (fun _ _ => rfl) (fun b hb => hb.2))
  have HB1 := hide hb1
  have HV := hide (level_any ⟨#[62, 32, 62, 32, 32, 120]⟩ w1 (by decide))
  rw [show levelL (⟨#[62, 32, 62, 32, 32, 120]⟩ : ByteArray).data.toList = (2, [32, 120]) from live20_level] at HV
  unfold levelV at HV
  clear hn1 hb1 HT
  go_wp2_with fail
  refine HV.out.mono ?_
  rintro e w2 ⟨rfl, rfl⟩
  obtain ⟨hw1, hw2⟩ := l20_world w2
  have q1 : ((str [32, 120]).toList == [32, 120]) = true := by rw [str_list]; exact beq_self_eq_true _
  have q2 : ((str [97, 10, 62, 32, 98, 10, 62, 32, 62, 32, 99, 10, 100, 10, 101]).toList == [97, 10, 62, 32, 98, 10, 62, 32, 62, 32, 99, 10, 100, 10, 101]) = true := by rw [str_list]; exact beq_self_eq_true _
  have HW1 := hide hw1
  have HW2 := hide hw2
  clear hw1 hw2 HV
  go_wp2_with fail
  have HS : Hid (Calls Tryz.prog 14 #[u, .slice (some ⟨w2.heap.size + 1 + 1, 0, none⟩) 6 6] (((w2.alloc (.cells l20c 33)).alloc (.cells (l20b w2.heap.size) 33)).alloc (.cells (l20a (w2.heap.size + 1)) 33)) fun e w' => e = .returned (.bool true) ∧ Below w2.heap.size w2 w') := hide (by
    refine (same14_any u _ live20T live20T _ (by decide) (HN1.out.kept HW2.out) HW1.out (by decide)).mono ?_
    rintro e w3 ⟨rfl, m, rfl⟩
    exact ⟨by rw [decide_eq_true rfl], HW2.out.trans ⟨rfl, rfl, rfl, Nat.le_refl _, fun _ _ => rfl⟩⟩)
  refine HS.out.mono ?_
  rintro e w3 ⟨rfl, hb3⟩
  have HTX := hide (plainText_any u live20T w3 (HN1.out.kept hb3) (by decide) (by decide))
  rw [live20_text] at HTX
  have HB3 := hide (bl_two HB1.out hb3)
  clear hb3 HS
  go_wp2_with fail
  refine HTX.out.mono ?_
  rintro e w4 ⟨rfl, hb4⟩
  have HB4 := hide (bl_two HB3.out hb4)
  clear hb4
  go_wp2_with fail
  go_ret
  exact ⟨rfl, HB4.out⟩
end Go.Proofs.YtiejmkjpgjbodaaGreatDoor

namespace Go.Proofs.YtiejmkjpgjbodaaGreatDoor
set_option linter.unusedVariables false
set_option linter.unusedSimpArgs false
set_option maxRecDepth 100000
def tokT : Tr → List TokL
  | .nil => []
  | .cons h K R => (if h.name = [] then [⟨1, [], [], h.text⟩] else if voidB h.name = true then [⟨2, h.name, h.attrs, []⟩] else ⟨2, h.name, h.attrs, []⟩ :: (tokT K ++ [⟨3, h.name, [], []⟩])) ++ tokT R
theorem shut_find (n : List UInt8) (st : List PartL) (h : shutB n (pathN st) = false) : findP (closesB n) st = none := by
  induction st with
  | nil => rfl
  | cons p r ih => cases r with
    | nil => rfl
    | cons q r =>
      simp only [pathN, shutB, Bool.or_eq_false_iff, Bool.and_eq_false_iff] at h
      simp only [findP]
      rw [if_neg (by rw [h.1]; decide)]
      by_cases hw : wallB p.name = true
      · rw [if_pos hw]
      · rw [if_neg hw]
        have h2 : shutB n (pathN (q :: r)) = false := by
          rcases h.2 with h2 | h2
          · simp at h2; exact absurd h2 hw
          · exact h2
        rw [ih h2]; rfl
theorem closeAll_noneF (is : List UInt8 → Bool) (f : Nat) (st : List PartL) (h : findP is st = none) : closeAll is f st = st := by
  cases f with
  | zero => rfl
  | succ f => rw [closeAll, h]
theorem pathN_same {p q : PartL} (h : q.name = p.name) (st : List PartL) : pathN (q :: st) = pathN (p :: st) := by
  cases st with
  | nil => rfl
  | cons a r => simp only [pathN, h]
theorem endText_name (p : PartL) : (endTextL p).name = p.name ∧ (endTextL p).attrs = p.attrs ∧ (endTextL p).tail = [] := by
  unfold endTextL; split
  · rename_i h; exact ⟨rfl, rfl, h⟩
  · exact ⟨rfl, rfl, rfl⟩
theorem fold_tokT (T : Tr) (d : Nat) (pt : Bool) (p : PartL) (st : List PartL) (n : Nat) (hr : rightB d pt T = true) (hd : d + (p :: st).length = 31) (hi : insB (pathN (p :: st)) T = false)
    (hn : n + T.count ≤ 5000) (hpt : pt = false → p.tail = []) :
    ∃ p', (tokT T).foldl tokB (p :: st, n) = (p' :: st, n + T.count) ∧ p'.name = p.name ∧ p'.attrs = p.attrs ∧ (endTextL p').kids = (endTextL p).kids ++ T.list := by
  induction T generalizing d pt p st n with
  | nil => exact ⟨p, rfl, rfl, rfl, by rw [Tr.list, List.append_nil]⟩
  | cons h K R ihK ihR =>
    simp only [rightB, Bool.and_eq_true, decide_eq_true_eq] at hr
    obtain ⟨r1, r2, r3, r4⟩ := hr
    simp only [insB, Bool.or_eq_false_iff] at hi
    obtain ⟨i1, i2⟩ := hi
    simp only [Tr.count] at hn
    rw [tokT, List.foldl_append]
    by_cases hnm : h.name = []
    · rw [if_pos hnm] at r2 ⊢
      simp only [decide_eq_true_eq] at r2
      obtain ⟨s1, s2, s3, s4⟩ := r2
      subst s2
      have ht := hpt s4
      have e1 : [(⟨1, [], [], h.text⟩ : TokL)].foldl tokB (p :: st, n) = ({ p with tail := h.text } :: st, n + 1) := by
        show tokB (p :: st, n) ⟨1, [], [], h.text⟩ = _
        simp only [tokB, charsP, ht, if_true]
        rw [if_neg (by simp only [Tr.count] at hn; omega)]
      rw [e1]
      obtain ⟨p', q1, q2, q3, q4⟩ := ihR d _ { p with tail := h.text } st (n + 1) r4 hd (by refine (congrArg (fun x => insB x R) ?_).trans i2; refine pathN_same ?_ st; exact rfl) (by simp only [Tr.count] at hn; omega) (fun e => by rw [hnm] at e; simp at e)
      refine ⟨p', by rw [q1, Tr.count, Tr.count]; congr 1; omega, q2, q3, ?_⟩
      rw [q4]
      have hh : h = ⟨[], [], h.text⟩ := by cases h; simp only at hnm s3; rw [hnm, s3]
      rw [show (endTextL { p with tail := h.text }).kids = p.kids ++ [textNd h.text] by unfold endTextL; rw [if_neg s1], show (endTextL p).kids = p.kids by unfold endTextL; rw [if_pos ht], List.append_assoc]
      congr 1
      show textNd h.text :: R.list = (h, Tr.nil) :: R.list
      rw [textNd, ← hh]
    · rw [if_neg hnm] at r2 i1 ⊢
      simp only [decide_eq_true_eq] at r2
      obtain ⟨s1, s2⟩ := r2
      simp only [Bool.or_eq_false_iff] at i1
      have hf := closeAll_noneF (closesB h.name) (p :: st).length _ (shut_find _ _ i1.1)
      have hh : h = ⟨h.name, h.attrs, []⟩ := by cases h; simp only at s1; rw [s1]
      by_cases hv : voidB h.name = true
      · rw [if_pos hv]
        have hK : K = .nil := by rcases s2 with s2 | s2
                                 · exact s2
                                 · rw [hv] at s2; cases s2
        subst hK
        have e1 : [(⟨2, h.name, h.attrs, []⟩ : TokL)].foldl tokB (p :: st, n) = ({ endTextL p with kids := (endTextL p).kids ++ [(⟨h.name, h.attrs, []⟩, Tr.nil)] } :: st, n + 1) := by
          show tokB (p :: st, n) ⟨2, h.name, h.attrs, []⟩ = _
          simp only [tokB, startP]
          rw [if_neg (by decide), if_pos trivial, if_neg (by omega), hf, putP, if_pos (.inl hv)]
        rw [e1]
        obtain ⟨p', q1, q2, q3, q4⟩ := ihR d _ { endTextL p with kids := (endTextL p).kids ++ [(⟨h.name, h.attrs, []⟩, Tr.nil)] } st (n + 1) r4 hd (by refine (congrArg (fun x => insB x R) ?_).trans i2; refine pathN_same ?_ st; exact (endText_name p).1) (by simp only [Tr.count] at hn; omega) (fun _ => (endText_name p).2.2)
        refine ⟨p', by rw [q1, Tr.count, Tr.count]; congr 1; omega, q2.trans (endText_name p).1, q3.trans (endText_name p).2.1, ?_⟩
        rw [q4, show (endTextL { endTextL p with kids := (endTextL p).kids ++ [(⟨h.name, h.attrs, []⟩, Tr.nil)] }).kids = (endTextL p).kids ++ [(⟨h.name, h.attrs, []⟩, Tr.nil)] by rw [endTextL, if_pos (endText_name p).2.2], List.append_assoc, ← hh]
        rfl
      · rw [if_neg hv]
        rw [List.foldl_cons, List.foldl_append]
        have hdp : ¬ (30 < (p :: st).length) := by
          intro hlt; omega
        have e1 : tokB (p :: st, n) ⟨2, h.name, h.attrs, []⟩ = (⟨h.name, h.attrs, [], []⟩ :: endTextL p :: st, n + 1) := by
          simp only [tokB, startP]
          rw [if_neg (by decide), if_pos trivial, if_neg (by omega), hf, putP, if_neg (by rintro (e | e); exact hv e; exact hdp e)]
        rw [e1]
        obtain ⟨k', u1, u2, u3, u4⟩ := ihK (d - 1) false ⟨h.name, h.attrs, [], []⟩ (endTextL p :: st) (n + 1) r3 (by simp only [List.length_cons] at *; omega) (by
            show insB (h.name :: pathN (endTextL p :: st)) K = false
            rw [pathN_same (p := p) (endText_name p).1 st]; exact i1.2) (by omega) (fun _ => rfl)
        rw [u1]
        have e2 : [(⟨3, h.name, [], []⟩ : TokL)].foldl tokB (k' :: endTextL p :: st, n + 1 + K.count) = ({ endTextL p with kids := (endTextL p).kids ++ [(endTextL k').node] } :: st, n + 1 + K.count) := by
          show tokB (k' :: endTextL p :: st, n + 1 + K.count) ⟨3, h.name, [], []⟩ = _
          have hfind : findP (fun o => o == h.name) (k' :: endTextL p :: st) = some 1 := by
            simp only [findP]; rw [if_pos (by rw [u2]; exact beq_self_eq_true _)]
          simp only [tokB, endP, hfind]
          rfl
        rw [e2]
        have hnode : (endTextL k').node = (h, K) := by
          unfold PartL.node
          rw [u4, (endText_name k').1, (endText_name k').2.1, u2, u3]
          show ((⟨h.name, h.attrs, []⟩ : NdH), Tr.of ([] ++ K.list)) = (h, K)
          rw [List.nil_append, Tr.of_list, ← hh]
        rw [hnode]
        obtain ⟨p', q1, q2, q3, q4⟩ := ihR d _ { endTextL p with kids := (endTextL p).kids ++ [(h, K)] } st (n + 1 + K.count) r4 hd (by refine (congrArg (fun x => insB x R) ?_).trans i2; refine pathN_same ?_ st; exact (endText_name p).1) (by omega) (fun _ => (endText_name p).2.2)
        refine ⟨p', by rw [q1, Tr.count]; congr 1; omega, q2.trans (endText_name p).1, q3.trans (endText_name p).2.1, ?_⟩
        rw [q4, show (endTextL { endTextL p with kids := (endTextL p).kids ++ [(h, K)] }).kids = (endTextL p).kids ++ [(h, K)] by rw [endTextL, if_pos (endText_name p).2.2], List.append_assoc]
        rfl
theorem build_tokT (T : Tr) (hr : rightB 30 false T = true) (hi : insB [] T = false) (hn : T.count ≤ 5000) : buildP (tokT T) = T := by
  obtain ⟨p', h1, -, -, h4⟩ := fold_tokT T 30 false rootL [] 0 hr rfl hi (by omega) (fun _ => rfl)
  unfold buildP
  rw [h1]
  show Tr.of (endTextL p').kids = T
  rw [h4]
  show Tr.of ([] ++ T.list) = T
  rw [List.nil_append, Tr.of_list]
end Go.Proofs.YtiejmkjpgjbodaaGreatDoor

namespace Go.Proofs.YtiejmkjpgjbodaaGreatDoor
set_option linter.unusedVariables false
set_option linter.unusedSimpArgs false
set_option maxRecDepth 100000
theorem right_zero (p : LnL) (r : List LnL) (d : Nat) (h0 : p.1 = 0) (hd : d ≠ 0) (i1 : rightB d false (treeP r) = true) (i2 : nextL r ≠ some 0 → ∀ pt, rightB d pt (treeP r) = true) : rightB d false (treeP (p :: r)) = true := by
  obtain ⟨n, s⟩ := p
  obtain rfl : n = 0 := h0
  show rightB d false (insP 0 s (nextL r) (treeP r)) = true
  rw [insP_zero]
  have key : ∀ pt, rightB d pt (if nextL r = some 0 then .cons brH .nil (treeP r) else treeP r) = true := fun pt => by
    split
    · simp only [rightB, Bool.and_eq_true, decide_eq_true_eq]
      exact ⟨hd, by rw [if_neg (by decide)]; decide, trivial, i1⟩
    · rename_i h; exact i2 h pt
  unfold saysT
  split
  · exact key false
  · rename_i hs
    simp only [rightB, Bool.and_eq_true, decide_eq_true_eq]
    refine ⟨hd, ?_, trivial, key _⟩
    rw [if_pos (show (txH s).name = [] from rfl)]
    exact decide_eq_true ⟨hs, trivial, rfl, trivial⟩
theorem part_in (r : List LnL) : ∃ a x, r = a ++ x ∧ (∀ p ∈ a, 0 < p.1) ∧ (x = [] ∨ nextL x = some 0) := by
  induction r with
  | nil => exact ⟨[], [], rfl, fun p h => (by cases h), .inl rfl⟩
  | cons q r ih =>
    by_cases h0 : q.1 = 0
    · exact ⟨[], q :: r, rfl, fun p h => (by cases h), .inr (by show some q.1 = _; rw [h0])⟩
    · obtain ⟨a, x, e, ha, hx⟩ := ih
      exact ⟨q :: a, x, by rw [e]; rfl, fun p hp => by rcases List.mem_cons.1 hp with rfl | hp; exact Nat.pos_of_ne_zero h0; exact ha p hp, hx⟩
theorem right_tree : ∀ (D n : Nat) (l : List LnL), l.length ≤ n → (∀ p ∈ l, p.1 ≤ D) → ∀ d, D + 1 ≤ d → rightB d false (treeP l) = true ∧ (nextL l ≠ some 0 → ∀ pt, rightB d pt (treeP l) = true) := by
  intro D
  induction D with
  | zero =>
    intro n
    induction n with
    | zero =>
      intro l hl _ d hd
      obtain rfl := List.eq_nil_of_length_eq_zero (Nat.le_zero.1 hl)
      exact ⟨rfl, fun _ _ => rfl⟩
    | succ n ih =>
      intro l hl hD d hd
      cases l with
      | nil => exact ⟨rfl, fun _ _ => rfl⟩
      | cons p r =>
        have h0 : p.1 = 0 := Nat.le_zero.1 (hD p (List.mem_cons_self ..))
        obtain ⟨i1, i2⟩ := ih r (by simpa using hl) (fun q hq => hD q (List.mem_cons_of_mem _ hq)) d hd
        exact ⟨right_zero p r d h0 (by omega) i1 i2, fun h => absurd (by show some p.1 = some 0; rw [h0]) h⟩
  | succ D ihD =>
    intro n
    induction n with
    | zero =>
      intro l hl _ d hd
      obtain rfl := List.eq_nil_of_length_eq_zero (Nat.le_zero.1 hl)
      exact ⟨rfl, fun _ _ => rfl⟩
    | succ n ih =>
      intro l hl hD d hd
      cases l with
      | nil => exact ⟨rfl, fun _ _ => rfl⟩
      | cons p r =>
        by_cases h0 : p.1 = 0
        · obtain ⟨i1, i2⟩ := ih r (by simpa using hl) (fun q hq => hD q (List.mem_cons_of_mem _ hq)) d hd
          exact ⟨right_zero p r d h0 (by omega) i1 i2, fun h => absurd (by show some p.1 = some 0; rw [h0]) h⟩
        · obtain ⟨a, x, e, ha, hx⟩ := part_in r
          have hq := treeP_quoted (p :: a) x (by simp) (fun q hq => by rcases List.mem_cons.1 hq with rfl | hq; exact Nat.pos_of_ne_zero h0; exact ha q hq) hx
          rw [List.cons_append, ← e] at hq
          have k1 := (ihD ((p :: a).map down).length ((p :: a).map down) (Nat.le_refl _) (fun q hq => by
            obtain ⟨z, hz, rfl⟩ := List.mem_map.1 hq
            have : z ∈ p :: r := by rw [e]; rcases List.mem_cons.1 hz with rfl | hz; exact List.mem_cons_self ..; exact List.mem_cons_of_mem _ (List.mem_append_left _ hz)
            have := hD z this
            show z.1 - 1 ≤ D
            omega) (d - 1) (by omega)).1
          have k2 := (ih x (by rw [e] at hl; simp at hl; omega) (fun q hq => hD q (by rw [e]; exact List.mem_cons_of_mem _ (List.mem_append_right _ hq))) d hd).1
          have key : ∀ pt, rightB d pt (treeP (p :: r)) = true := fun pt => by
            rw [hq]
            simp only [rightB, Bool.and_eq_true, decide_eq_true_eq]
            exact ⟨by omega, by rw [if_neg (by decide)]; exact decide_eq_true ⟨rfl, .inr (by decide)⟩, k1, k2⟩
          exact ⟨key false, fun _ => key⟩
theorem shut_quo (n : List UInt8) (op : List (List UInt8)) (h : ∀ o ∈ op, o = brH.name ∨ o = quH.name) : shutB n op = false := by
  induction op with
  | nil => rfl
  | cons o r ih =>
    have hr := ih (fun z hz => h z (List.mem_cons_of_mem _ hz))
    have hc : closesB n o = false := by
      rcases h o (List.mem_cons_self ..) with rfl | rfl
      · unfold closesB; rw [if_neg (by decide), if_neg (by decide), if_neg (by decide), if_neg (by decide), show headNB brH.name = false by decide]; rfl
      · unfold closesB; rw [if_neg (by decide), if_neg (by decide), if_neg (by decide), if_neg (by decide), show headNB quH.name = false by decide]; rfl
    rw [shutB, hc, hr]; simp
def plainH (h : NdH) : Bool := decide (h.name = [] ∨ h.name = brH.name ∨ h.name = quH.name)
theorem ins_plain (T : Tr) (op : List (List UInt8)) (h : ∀ o ∈ op, o = brH.name ∨ o = quH.name) (ha : T.all plainH = true) : insB op T = false := by
  induction T generalizing op with
  | nil => rfl
  | cons p K R ihK ihR =>
    simp only [Tr.all, Bool.and_eq_true] at ha
    have hp := of_decide_eq_true ha.1
    simp only [insB, Bool.or_eq_false_iff]
    refine ⟨?_, ihR op h ha.2.2⟩
    split
    · rfl
    · rename_i hn
      rw [shut_quo _ _ h, ihK _ (fun o ho => by
        rcases List.mem_cons.1 ho with rfl | ho
        · rcases hp with hp | hp
          · exact absurd hp hn
          · exact hp
        · exact h o ho) ha.2.1]; rfl
theorem lvP_sum (k : Nat) (l : List UInt8) : (lvP k l).1 + (lvP k l).2.length ≤ l.length := by
  induction k generalizing l with
  | zero => rw [lvP_zero]; simp
  | succ k ih => cases l with
    | nil => exact Nat.le_refl _
    | cons c r =>
      have h := ih (dropB r)
      have h2 := dropB_le r
      unfold lvP
      split
      · simp only [List.length_cons]; omega
      · simp
def sumL (l : List LnL) : Nat := (l.map fun p => p.1 + p.2.length + 1).sum
theorem insP_count (n : Nat) (s : List UInt8) (m : Option Nat) (T : Tr) : (insP n s m T).count ≤ T.count + n + s.length + 1 := by
  induction n generalizing m T with
  | zero =>
    rw [insP_zero]
    have e : (if m = some 0 then Tr.cons brH .nil T else T).count ≤ T.count + 1 := by
      split
      · simp only [Tr.count]; omega
      · omega
    unfold saysT
    split
    · omega
    · rename_i h
      have := List.length_pos_iff.2 h
      simp only [Tr.count]; omega
  | succ n ih =>
    have key : (Tr.cons quH (insP n s none .nil) T).count ≤ T.count + (n + 1) + s.length + 1 := by
      have := ih none .nil
      simp only [Tr.count] at *; omega
    cases m with
    | none => rw [insP_none]; exact key
    | some m => cases m with
      | zero => rw [insP_off]; exact key
      | succ m => cases T with
        | nil => exact key
        | cons h K R =>
          rw [insP_in]
          have := ih (some m) K
          simp only [Tr.count] at *; omega
theorem treeP_count (l : List LnL) : (treeP l).count ≤ sumL l := by
  induction l with
  | nil => exact Nat.le_refl _
  | cons p r ih =>
    have := insP_count p.1 p.2 (nextL r) (treeP r)
    unfold sumL at *
    rw [List.map_cons, List.sum_cons]
    show (insP p.1 p.2 (nextL r) (treeP r)).count ≤ _
    omega
theorem cutL_sum (l : List UInt8) : ((cutL l).map fun x => x.length + 1).sum ≤ l.length + 1 := by
  refine list_ind (p := fun l => ((cutL l).map fun x => x.length + 1).sum ≤ l.length + 1) ?_ l
  intro l ih
  rcases cut_case 10 l with ⟨h1, _, _⟩ | ⟨a, r, e, h1, _, _⟩
  · rw [cut_last l h1]
    split
    · simp
    · simp
  · subst e
    rw [cut_line a r h1]
    have hr := ih r (by simp; omega)
    have ht := trimCR_le a
    simp only [List.length_cons, List.map_cons, List.sum_cons, List.length_append] at *
    omega
theorem plainP_count (s : List UInt8) : (plainP s).count ≤ s.length + 1 := by
  refine Nat.le_trans (treeP_count _) (Nat.le_trans ?_ (cutL_sum s))
  unfold sumL linesP
  generalize cutL s = L
  induction L with
  | nil => exact Nat.le_refl _
  | cons x r ih =>
    have := lvP_sum 20 x
    simp only [List.map_cons, List.sum_cons] at ih ⊢
    show (lvP 20 x).1 + (lvP 20 x).2.length + 1 + _ ≤ _
    omega
end Go.Proofs.YtiejmkjpgjbodaaGreatDoor

namespace Go.Proofs.YtiejmkjpgjbodaaGreatDoor
set_option linter.unusedVariables false
set_option linter.unusedSimpArgs false
theorem lowC_two (c : UInt8) : lowC (lowC c) = lowC c := u8_all (p := fun c => lowC (lowC c) = lowC c) (by decide +kernel) c
theorem lowL_two (l : List UInt8) : lowL (lowL l) = lowL l := by
  unfold lowL
  rw [List.map_map]
  exact List.map_congr_left fun c _ => lowC_two c
def FormA (A : List AtL) : Prop := A.length ≤ 30 ∧ A.Pairwise (fun a b => a.1 ≠ b.1)
theorem formA_add {A : List AtL} {a : AtL} (h : FormA A) : FormA (if countsB A a.1 = true then A ++ [a] else A) := by
  split
  · rename_i hc
    unfold countsB at hc
    rw [Bool.and_eq_true, decide_eq_true_eq, Bool.not_eq_true', List.any_eq_false] at hc
    refine ⟨by rw [List.length_append]; simp; omega, ?_⟩
    rw [List.pairwise_append]
    refine ⟨h.2, List.pairwise_singleton _ _, fun x hx y hy => ?_⟩
    obtain rfl := List.mem_singleton.1 hy
    have := hc.2 x hx
    simpa using this
  · exact h
theorem tag_form {dec : List UInt8 → List UInt8} {l n b : List UInt8} {A : List AtL} (h : tagL dec l = some (n, A, b)) : FormA A ∧ lowL n = n := by
  unfold tagL at h
  cases ha : attrsLL dec [] (upL nameEndB l).2 with
  | none => rw [ha] at h; cases h
  | some p =>
    obtain ⟨B, x⟩ := p
    rw [ha] at h
    injection h with h
    injection h with h1 h
    injection h with h2 _
    obtain ⟨_, h3, _⟩ := attrsLL_ind dec (P := fun A _ => FormA A) (fun A l c r _ _ hA => formA_add hA) _ [] _ (Nat.le_refl _) ⟨by simp, List.Pairwise.nil⟩ B x ha
    rw [← h1, ← h2]
    exact ⟨h3, lowL_two _⟩
def FormT (t : TokL) : Prop := (t.kind = 1 → t.text ≠ []) ∧ lowL t.name = t.name ∧ t.attrs.length ≤ 30 ∧ (t.kind ≠ 2 → t.attrs = []) ∧ t.attrs.Pairwise (fun a b => a.1 ≠ b.1)
theorem form_chars {x : List UInt8} (h : x ≠ []) : FormT (charsT x) := ⟨fun _ => h, rfl, by simp [charsT], fun _ => rfl, List.Pairwise.nil⟩
theorem form_rem (x : List UInt8) : FormT (remT x) := ⟨fun e => absurd (show (4 : Nat) = 1 from e) (by decide), rfl, by simp [remT], fun _ => rfl, List.Pairwise.nil⟩
theorem form_end {n : List UInt8} (h : lowL n = n) : FormT (endT n) := ⟨fun e => absurd (show (3 : Nat) = 1 from e) (by decide), h, by simp [endT], fun _ => rfl, List.Pairwise.nil⟩
theorem form_start {n : List UInt8} {A : List AtL} (h : lowL n = n) (hA : FormA A) : FormT (startT n A) := ⟨fun e => absurd (show (2 : Nat) = 1 from e) (by decide), h, hA.1, fun e => absurd rfl e, hA.2⟩
theorem mark_form (dec : List UInt8 → List UInt8) (l : List UInt8) : (∀ t, (markL dec l).1 = some t → FormT t ∧ t.kind ≠ 1) ∧ ((markL dec l).1 = none → (markL dec l).2.1 = []) ∧ (markL dec l).2.1.length + (markL dec l).2.2.length ≤ l.length := by
  have hrem : ∀ k : List UInt8, (∀ t, (remL k).1 = some t → FormT t ∧ t.kind ≠ 1) ∧ ((remL k).1 = none → (remL k).2.1 = []) ∧ (remL k).2.1.length + (remL k).2.2.length ≤ k.length := fun k =>
    ⟨fun t ht => (by injection ht with ht; rw [← ht]; exact ⟨form_rem _, show (4 : Nat) ≠ 1 by decide⟩), fun h => (by cases h), by have := remL_len k; simpa [remL] using this⟩
  have hlong : ∀ k : List UInt8, (∀ t, (longL k).1 = some t → FormT t ∧ t.kind ≠ 1) ∧ ((longL k).1 = none → (longL k).2.1 = []) ∧ (longL k).2.1.length + (longL k).2.2.length ≤ k.length := fun k => by
    have h3 := longL_len k
    unfold longL at h3 ⊢
    split
    · exact ⟨fun t ht => (by injection ht with ht; rw [← ht]; exact ⟨form_rem _, show (4 : Nat) ≠ 1 by decide⟩), fun h => (by cases h), by simp⟩
    · exact ⟨fun t ht => (by injection ht with ht; rw [← ht]; exact ⟨form_rem _, show (4 : Nat) ≠ 1 by decide⟩), fun h => (by cases h), by simp; omega⟩
    · exact ⟨fun t ht => (by injection ht with ht; rw [← ht]; exact ⟨form_rem _, show (4 : Nat) ≠ 1 by decide⟩), fun h => (by cases h), by have := cutAt_len remEnd k; simpa using this⟩
  have hend : ∀ k : List UInt8, (∀ t, (endL dec k).1 = some t → FormT t ∧ t.kind ≠ 1) ∧ ((endL dec k).1 = none → (endL dec k).2.1 = []) ∧ (endL dec k).2.1.length + (endL dec k).2.2.length ≤ k.length := fun k => by
    have h3 := endL_len dec k
    unfold endL at h3 ⊢
    cases h : tagL dec k with
    | none => exact ⟨fun t ht => (by cases ht), fun _ => rfl, by simp⟩
    | some p =>
      obtain ⟨n, A, b⟩ := p
      rw [h] at h3
      exact ⟨fun t ht => (by injection ht with ht; rw [← ht]; exact ⟨form_end (tag_form h).2, show (3 : Nat) ≠ 1 by decide⟩), fun h => (by cases h), by simpa using h3⟩
  have hstart : ∀ k : List UInt8, (∀ t, (startL dec k).1 = some t → FormT t ∧ t.kind ≠ 1) ∧ ((startL dec k).1 = none → (startL dec k).2.1 = []) ∧ (startL dec k).2.1.length + (startL dec k).2.2.length ≤ k.length := fun k => by
    unfold startL
    cases h : tagL dec k with
    | none => exact ⟨fun t ht => (by cases ht), fun _ => rfl, by simp⟩
    | some p =>
      obtain ⟨n, A, b⟩ := p
      have h4 := tagL_len h
      obtain ⟨h5, h6⟩ := tag_form h
      simp only
      split
      · refine ⟨fun t ht => (by injection ht with ht; rw [← ht]; exact ⟨form_start h6 h5, show (2 : Nat) ≠ 1 by decide⟩), fun h => (by cases h), ?_⟩
        show (b.take _).length + (b.drop _).length ≤ _
        rw [← List.length_append, List.take_append_drop]; omega
      · refine ⟨fun t ht => (by injection ht with ht; rw [← ht]; exact ⟨form_start h6 h5, show (2 : Nat) ≠ 1 by decide⟩), fun h => (by cases h), ?_⟩
        show ([] : List UInt8).length + b.length ≤ _
        simp; omega
  unfold markL
  split
  · rename_i r
    split
    · exact ⟨fun t ht => (by cases ht), fun _ => rfl, by simp⟩
    · rename_i c q
      split
      · obtain ⟨a, b, d⟩ := hend (c :: q)
        exact ⟨a, b, by simp only [List.length_cons] at d ⊢; omega⟩
      · split
        · exact ⟨fun t ht => (by cases ht), fun _ => rfl, by simp; omega⟩
        · obtain ⟨a, b, d⟩ := hrem (c :: q)
          exact ⟨a, b, by simp only [List.length_cons] at d ⊢; omega⟩
  · rename_i r
    split
    · rename_i x
      obtain ⟨a, b, d⟩ := hlong x
      exact ⟨a, b, by simp only [List.length_cons] at d ⊢; omega⟩
    · obtain ⟨a, b, d⟩ := hrem r
      exact ⟨a, b, by simp only [List.length_cons] at d ⊢; omega⟩
  · rename_i r
    exact hrem (63 :: r)
  · exact hstart l
def FormsL (L : List TokL) : Prop := (∀ t ∈ L, FormT t) ∧ ∀ (i : Nat) (a b : TokL), L[i]? = some a → L[i + 1]? = some b → ¬ (a.kind = 1 ∧ b.kind = 1)
def EndsL (L : List TokL) : Prop := ∀ t, L.getLast? = some t → t.kind ≠ 1
theorem forms_snoc {L : List TokL} {t : TokL} (h : FormsL L) (ht : FormT t) (he : t.kind = 1 → EndsL L) : FormsL (L ++ [t]) := by
  refine ⟨fun x hx => ?_, fun i a b ha hb => ?_⟩
  · rcases List.mem_append.1 hx with hx | hx
    · exact h.1 x hx
    · obtain rfl := List.mem_singleton.1 hx
      exact ht
  · by_cases h1 : i + 1 < L.length
    · rw [List.getElem?_append_left h1] at hb
      rw [List.getElem?_append_left (by omega)] at ha
      exact h.2 i a b ha hb
    · have h2 : i + 1 = L.length := by
        have := (List.getElem?_eq_some_iff.1 hb).1
        simp at this; omega
      rw [h2, List.getElem?_append_right (Nat.le_refl _)] at hb
      simp at hb
      rw [List.getElem?_append_left (by omega)] at ha
      rintro ⟨k1, k2⟩
      rw [← hb] at k2
      have hl : L.getLast? = some a := by rw [List.getLast?_eq_getElem?, show L.length - 1 = i by omega]; exact ha
      exact he k2 a hl k1
theorem flush_forms {L : List TokL} {x : List UInt8} (h : FormsL L) (he : EndsL L) : FormsL (flushT L x) := by
  unfold flushT
  split
  · exact h
  · rename_i hx
    exact forms_snoc h (form_chars hx) (fun _ => he)
theorem ends_snoc {L : List TokL} {t : TokL} (h : t.kind ≠ 1) : EndsL (L ++ [t]) := by
  intro u hu
  rw [List.getLast?_append] at hu
  simp at hu
  rw [← hu]; exact h
def sz1 (x : List UInt8) : Nat := if x = [] then 0 else 1
theorem flush_len (L : List TokL) (x : List UInt8) : (flushT L x).length = L.length + sz1 x := by
  unfold flushT sz1
  split <;> simp
theorem scan_forms (dec : List UInt8 → List UInt8) : ∀ (k : Nat) (l : List UInt8) (L : List TokL) (x : List UInt8), l.length ≤ k → FormsL L → EndsL L → FormsL (scanL dec L x l) ∧ (scanL dec L x l).length ≤ L.length + sz1 x + l.length := by
  intro k
  induction k with
  | zero =>
    intro l L x hl h he
    obtain rfl : l = [] := List.eq_nil_of_length_eq_zero (by omega)
    rw [scanL_nil]
    exact ⟨flush_forms h he, by rw [flush_len]; simp⟩
  | succ k ih =>
    intro l L x hl h he
    cases l with
    | nil =>
      rw [scanL_nil]
      exact ⟨flush_forms h he, by rw [flush_len]; simp⟩
    | cons c r =>
      by_cases hm : 0 < markN (c :: r)
      · rw [scanL_text dec L x hm]
        have h1 := markN_le (c :: r)
        have h2 : ((c :: r).drop (markN (c :: r))).length = (c :: r).length - markN (c :: r) := List.length_drop
        obtain ⟨a, b⟩ := ih ((c :: r).drop (markN (c :: r))) L (x ++ dec ((c :: r).take (markN (c :: r)))) (by rw [h2]; omega) h he
        refine ⟨a, ?_⟩
        have h3 : sz1 (x ++ dec ((c :: r).take (markN (c :: r)))) ≤ sz1 x + 1 := by unfold sz1; split <;> split <;> omega
        omega
      · have hmk : isMarkB (c :: r) = true := markN_zero (by omega)
        rw [scanL_mark dec L x hmk]
        obtain ⟨m1, m2, m3⟩ := mark_form dec r
        have hlen : (c :: r).length = r.length + 1 := rfl
        have hrk : (markL dec r).2.2.length ≤ k := by omega
        unfold addT
        cases ho : (markL dec r).1 with
        | none =>
          have e := m2 ho
          simp only
          rw [e, List.append_nil]
          obtain ⟨a, b⟩ := ih (markL dec r).2.2 L x hrk h he
          exact ⟨a, by omega⟩
        | some t =>
          obtain ⟨f1, f2⟩ := m1 t ho
          simp only
          obtain ⟨a, b⟩ := ih (markL dec r).2.2 (flushT L x ++ [t]) (markL dec r).2.1 hrk (forms_snoc (flush_forms h he) f1 (fun e => absurd e f2)) (ends_snoc f2)
          refine ⟨a, ?_⟩
          have h3 : sz1 (markL dec r).2.1 ≤ (markL dec r).2.1.length := by
            unfold sz1
            split
            · omega
            · rename_i hne
              exact List.length_pos_iff.2 hne
          rw [List.length_append, flush_len] at b
          simp only [List.length_cons, List.length_nil] at b
          omega
end Go.Proofs.YtiejmkjpgjbodaaGreatDoor

namespace Go.Proofs.YtiejmkjpgjbodaaGreatDoor
set_option linter.unusedVariables false
set_option linter.unusedSimpArgs false
end Go.Proofs.YtiejmkjpgjbodaaGreatDoor

namespace Go.Proofs.YtiejmkjpgjbodaaGreatDoor
open Go.RowKit
set_option linter.unusedVariables false
set_option linter.unusedSimpArgs false
set_option maxRecDepth 100000
theorem mark_kinds (dec : List UInt8 → List UInt8) {c : UInt8} {r : List UInt8} (hm : isMarkB (c :: r) = true) (t : TokL) (h : (markL dec r).1 = some t) : t.kind ≠ 1 ∧ (t.kind = 2 → t.name ≠ []) := by
  refine ⟨((mark_form dec r).1 t h).2, fun hk => ?_⟩
  have hrem : ∀ k, (remL k).1 = some t → False := fun k e => by
    injection e with e; rw [← e] at hk; exact absurd (show (4 : Nat) = 2 from hk) (by decide)
  have hlong : ∀ k, (longL k).1 = some t → False := fun k e => by
    unfold longL at e
    split at e <;> (injection e with e; rw [← e] at hk; exact absurd (show (4 : Nat) = 2 from hk) (by decide))
  have hend : ∀ k, (endL dec k).1 = some t → False := fun k e => by
    unfold endL at e
    split at e
    · cases e
    · injection e with e; rw [← e] at hk; exact absurd (show (3 : Nat) = 2 from hk) (by decide)
  unfold markL at h
  split at h
  · split at h
    · cases h
    · split at h
      · exact (hend _ h).elim
      · split at h
        · cases h
        · exact (hrem _ h).elim
  · split at h
    · exact (hlong _ h).elim
    · exact (hrem _ h).elim
  · exact (hrem _ h).elim
  · rename_i h1 h2 h3
    cases r with
    | nil =>
      exfalso
      unfold isMarkB at hm
      split at hm
      · rename_i e; injection e with _ e; cases e
      · cases hm
    | cons d q =>
      have hd : letterB d = true := by
        unfold isMarkB at hm
        split at hm
        · rename_i c' r' e
          injection e with e1 e2
          injection e2 with e2 e3
          subst e2 e3
          rw [if_neg (fun e => e.elim (fun e => h2 _ (by rw [e])) (fun e => h3 _ (by rw [e]))), if_neg (fun e => h1 _ (by rw [e]))] at hm
          exact hm
        · cases hm
      have hne : nameEndB d = false := (u8_all (p := fun d => letterB d = true → nameEndB d = false) (by decide +kernel) d) hd
      unfold startL at h
      cases ht : tagL dec (d :: q) with
      | none => rw [ht] at h; cases h
      | some p =>
        obtain ⟨n, A, b⟩ := p
        have hn : n ≠ [] := by
          unfold tagL at ht
          cases ha : attrsLL dec [] (upL nameEndB (d :: q)).2 with
          | none => rw [ha] at ht; cases ht
          | some p =>
            obtain ⟨B, x⟩ := p
            rw [ha] at ht
            injection ht with ht
            injection ht with ht _
            rw [← ht]
            unfold upL lowL
            rw [List.takeWhile_cons, hne]
            simp
        rw [ht] at h
        simp only at h
        split at h
        · injection h with h; rw [← h]; exact hn
        · injection h with h; rw [← h]; exact hn
def TokW (N : Nat) (t : TokL) : Prop := (t.kind = 1 → t.text.length ≤ N) ∧ (t.kind = 2 → t.name ≠ [])
theorem flush_w {N : Nat} {L : List TokL} (h : ∀ t ∈ L, TokW N t) {x : List UInt8} (hx : x.length ≤ N) : ∀ t ∈ flushT L x, TokW N t := by
  unfold flushT
  split
  · exact h
  · intro t ht
    rcases List.mem_append.1 ht with ht | ht
    · exact h t ht
    · obtain rfl := List.mem_singleton.1 ht
      exact ⟨fun _ => hx, fun e => absurd (show (1 : Nat) = 2 from e) (by decide)⟩
theorem scan_w (dec : List UInt8 → List UInt8) (hdec : ∀ l, (dec l).length ≤ l.length) (N : Nat) : ∀ (k : Nat) (l : List UInt8) (L : List TokL) (x : List UInt8), l.length ≤ k → x.length + l.length ≤ N → (∀ t ∈ L, TokW N t) → ∀ t ∈ scanL dec L x l, TokW N t := by
  intro k
  induction k with
  | zero =>
    intro l L x hl hN h
    obtain rfl : l = [] := List.eq_nil_of_length_eq_zero (by omega)
    rw [scanL_nil]
    exact flush_w h (by simpa using hN)
  | succ k ih =>
    intro l L x hl hN h
    cases l with
    | nil => rw [scanL_nil]; exact flush_w h (by simpa using hN)
    | cons c r =>
      by_cases hm : 0 < markN (c :: r)
      · rw [scanL_text dec L x hm]
        have h1 := markN_le (c :: r)
        have h2 : ((c :: r).drop (markN (c :: r))).length = (c :: r).length - markN (c :: r) := List.length_drop
        have h3 := hdec ((c :: r).take (markN (c :: r)))
        rw [List.length_take] at h3
        exact ih _ L _ (by rw [h2]; omega) (by rw [h2, List.length_append]; omega) h
      · have hmk : isMarkB (c :: r) = true := markN_zero (by omega)
        rw [scanL_mark dec L x hmk]
        have hlen : (c :: r).length = r.length + 1 := rfl
        obtain ⟨m1, m2, m3⟩ := mark_form dec r
        refine ih _ _ _ (by omega) ?_ ?_
        · unfold addT
          cases ho : (markL dec r).1 with
          | none => have := m2 ho; simp only [this, List.append_nil]; omega
          | some u => simp only; omega
        · unfold addT
          cases ho : (markL dec r).1 with
          | none => exact h
          | some u =>
            intro t ht
            simp only at ht
            rcases List.mem_append.1 ht with ht | ht
            · exact flush_w h (by omega) t ht
            · obtain rfl := List.mem_singleton.1 ht
              obtain ⟨k1, k2⟩ := mark_kinds dec hmk t ho
              exact ⟨fun e => absurd e k1, k2⟩
theorem scanE_w (s : ByteArray) : (∀ t ∈ scanL decE [] [] s.data.toList, TokW s.size t) ∧ (scanL decE [] [] s.data.toList).length ≤ s.size := by
  refine ⟨scan_w decE (fun l => decE_len _ l (Nat.le_refl _)) s.size _ s.data.toList [] [] (Nat.le_refl _) (by rw [toList_length]; simp) (fun t h => by cases h), ?_⟩
  have := (scan_forms decE _ s.data.toList [] [] (Nat.le_refl _) ⟨fun t h => (by cases h), fun i a b h => by simp at h⟩ (fun t h => by simp at h)).2
  rw [toList_length] at this
  simpa [sz1] using this
end Go.Proofs.YtiejmkjpgjbodaaGreatDoor

namespace Go.Proofs.YtiejmkjpgjbodaaGreatDoor
open Go.RowKit
set_option linter.unusedVariables false
set_option linter.unusedSimpArgs false
set_option maxRecDepth 100000
end Go.Proofs.YtiejmkjpgjbodaaGreatDoor

namespace Go.Proofs.YtiejmkjpgjbodaaGreatDoor
open Go.RowKit
set_option linter.unusedVariables false
set_option linter.unusedSimpArgs false
set_option maxRecDepth 100000
def KT (w w' : World) : Prop := ∀ (g : Nat) (cur : Array Value) (T : TypeId) (fz : Nat × Nat), w.heap[g]? = some (Obj.cells cur T fz) → T ≠ 5 → T ≠ 78 → w'.heap[g]? = w.heap[g]?
theorem KT.refl (w : World) : KT w w := fun _ _ _ _ _ _ _ => rfl
theorem KT.trans {a b c : World} (h : KT a b) (k : KT b c) : KT a c := fun g cur T fz hg h1 h2 => by
  have e := h g cur T fz hg h1 h2
  exact (k g cur T fz (e.trans hg) h1 h2).trans e
theorem KT.below {w w' : World} (h : Below w.heap.size w w') : KT w w' := fun g cur T fz hg _ _ => h.block g (Array.getElem?_eq_some_iff.1 hg).1
theorem KT.alloc (w : World) (o : Obj) : KT w (w.alloc o) := fun g cur T fz hg _ _ => Below.heap_alloc w o g (Array.getElem?_eq_some_iff.1 hg).1
theorem KT.set {w : World} {b : Nat} {cs : Array Value} {fr : Nat × Nat} (h : w.heap[b]? = some (.cells cs 78 fr)) (i : Nat) (v : Value) : KT w (w.setCell ⟨b, i, none⟩ v) := fun g cur T fz hg _ h2 => by
  have hne : g ≠ b := by
    rintro rfl; rw [h] at hg; injection hg with hg; injection hg with _ e; exact h2 e.symm
  exact Below.heap_setCell w _ v g hne
theorem KT.own {w w' : World} {B n : Nat} {v : Value} {xs : List Value} (h : w.ownsRow B 5 1 v n xs) (hg : w.grownBy w' v.ownBlock) : KT w w' := fun m cur T fz hm h1 _ => by
  refine hg.block m (Array.getElem?_eq_some_iff.1 hm).1 (fun he => ?_)
  rcases h.2 with ⟨rfl, _⟩ | ⟨g, cap, cur2, rfl, _, hh, _⟩
  · simp [Value.ownBlock] at he
  · have e1 : g = m := by simpa [Value.ownBlock] using he.symm
    subst e1
    rw [hh] at hm; injection hm with hm; injection hm with _ e; exact h1 e.symm
theorem copyCheckT_any (B b : Nat) (bs : List Value) (w : World) (h : Lib.IsBuilder 78 5 B b bs w) :
    Calls Tryz.prog 103 #[.pointer (some ⟨b, 0, none⟩)] w fun e w' => e = .returned (.tuple #[]) ∧ Lib.BuilderAt 78 5 B b (.pointer (some ⟨b, 0, none⟩)) bs w' ∧ Below B w w' ∧ KT w w' := by
  rcases h with h | h
  · obtain ⟨hB, v, hbk, ho, hne⟩ := id h
    refine (copyCheck_fresh b w h.cell0 h.shape h.frozen0).mono ?_
    rintro e w' ⟨rfl, rfl⟩
    exact ⟨rfl, h.used _, (Below.refl B w).setCell (p := ⟨b, 0, none⟩) h.1 _, KT.set hbk _ _⟩
  · refine (copyCheck_used b w h.cell0).mono ?_
    rintro e w' ⟨rfl, rfl⟩
    exact ⟨rfl, h, Below.refl B _, KT.refl _⟩
set_option maxHeartbeats 1000000 in
theorem writeStringT_any (B b : Nat) (l : List UInt8) (s : ByteArray) (W0 w : World) (h : Bld B b l W0 w) (hlen : l.length + s.size ≤ 140737488355328) :
    Calls Tryz.prog 64 #[.pointer (some ⟨b, 0, none⟩), .string s] w fun e w' => e = .returned (.tuple #[.int .i64 s.size, .nilIface]) ∧ Bld B b (l ++ s.data.toList) W0 w' ∧ KT w w' := by
  obtain ⟨h, hbel, hBw⟩ := h
  obtain ⟨i0, hi, hz0, hz1, hz2⟩ := info_parts info_u8
  have HBL := hide hbel
  clear hbel
  go_enter Tryz.func64, Tryz.ntmps64
  go_wp2_with fail
  refine (copyCheckT_any B b (cellsOf l) _ h).mono ?_
  rintro e w1 ⟨rfl, h1, hb1, hk1⟩
  have HK1 := hide hk1
  clear hk1
  obtain ⟨hB, v, hbk, hown, hne⟩ := h1
  have c1 : w1.cell? ⟨b, 1, none⟩ = some v := by rw [Lib.cell_of_heap hbk]; rfl
  have hlt : b < w1.heap.size := lt_of_block hbk
  have hl1 : (cellsOf l).length = l.length := cellsOf_length l
  have HBK := hide hbk
  have HOWN := hide hown
  have HNE := hide hne
  have HB1 := hide hb1
  have hsz1 := hb1.size
  have HI := hide hi
  have HZ0 := hide hz0
  have HZ1 := hide hz1
  have HZ2 := hide hz2
  have HL1 := hide hl1
  clear hbk hown hne hb1 hi hz0 hz1 hz2 h
  go_wp2_with (refine Lib.wpList_append_own_string _ rfl _ _ 56 9 rfl B 5 i0 Tryz.underlying56 Tryz.underlying9 HI.out HZ0.out HZ1.out HZ2.out v (cellsOf l).length (cellsOf l) rfl HOWN.out s rfl (by rw [HL1.out]; unfold maxLen; omega) (by rw [HL1.out]; omega) (by omega) ?_
               intro v' w2 hown' hgrow _
               obtain ⟨ao, n', cap, rfl⟩ : ∃ ao n' cap, v' = .slice ao n' cap := by
                 rcases hown'.2 with ⟨hv, _⟩ | ⟨g, cap, cur, hv, _⟩
                 · exact ⟨_, _, _, hv⟩
                 · exact ⟨_, _, _, hv⟩
               have hb2 : w2.heap[b]? = some (.cells #[.pointer (some ⟨b, 0, none⟩), v] 78 (0, 0)) := by
                 rw [hgrow.block b hlt (fun e => HNE.out e.symm)]
                 exact HBK.out
               have d1 : w2.cell? ⟨b, 1, none⟩ = some v := by rw [Lib.cell_of_heap hb2]; rfl
               have f1 : w2.frozen? ⟨b, 1, none⟩ = false := Lib.frozen_of_heap hb2 1
               have HKT := hide (HK1.out.trans (KT.own HOWN.out hgrow))
               have HO2 := hide hown'
               have HG2 := hide hgrow
               have HB2 := hide hb2
               clear hown' hgrow hb2)
  go_ret2
  have hb3 : Below B w w2 := HB1.out.grown HG2.out (by omega) (fun k hk => (HOWN.out.lt k hk).1)
  refine ⟨rfl, ⟨.inr ?_, (HBL.out.trans hb3).setCell (p := ⟨b, 1, none⟩) hB _, ?_⟩, HKT.out.trans (KT.set HB2.out _ _)⟩
  · refine Lib.BuilderAt.put (T := 78) (e := 5) hB HB2.out (bs' := cellsOf (l ++ s.data.toList)) ?_ (by decide)
    have ho := HO2.out
    have e1 : cellsOf (l ++ s.data.toList) = cellsOf l ++ Lib.strCells s := by rw [cellsOf_str, cellsOf, List.map_append]; rfl
    rw [e1, List.length_append, Lib.strCells_length]
    exact ho
  · have := hb3.size
    simp [World.setCell]
    omega
end Go.Proofs.YtiejmkjpgjbodaaGreatDoor

namespace Go.Proofs.YtiejmkjpgjbodaaGreatDoor
open Go.RowKit
set_option linter.unusedVariables false
set_option linter.unusedSimpArgs false
set_option maxRecDepth 100000
theorem bld_inv (B b : Nat) (W0 : World) : InvOK B (fun s w => Bld B b s W0 w) := by
  intro s w w' row hi hg hr
  obtain ⟨h1, h2, h3⟩ := hi
  refine ⟨?_, h2.grown hg h3 (fun k hk => (hr k hk).1), Nat.le_trans h3 hg.size⟩
  have key : ∀ p, Lib.BuilderAt 78 5 B b p (cellsOf s) w → Lib.BuilderAt 78 5 B b p (cellsOf s) w' := by
    intro p h
    have hlt := h.lt
    obtain ⟨hB, v, hbk, hown, hne⟩ := h
    refine ⟨hB, v, (hg.block b hlt (fun e => ?_)).trans hbk, hown.kept hg ?_, hne⟩
    · obtain ⟨_, cur, h4⟩ := hr b e.symm
      rw [hbk] at h4; injection h4 with h4; injection h4 with _ h4
      exact absurd h4 (by decide)
    · rcases hown.2 with ⟨rfl, _⟩ | ⟨g, cap, cur2, rfl, _, hh, _⟩
      · exact .inl (by simp [Value.ownBlock])
      · refine .inr (fun e => ?_)
        obtain ⟨_, cur, h4⟩ := hr g (by rw [← e]; simp [Value.ownBlock])
        rw [hh] at h4; injection h4 with h4; injection h4 with _ h4
        exact absurd h4 (by decide)
  rcases h1 with h | h
  · exact .inl (key _ h)
  · exact .inr (key _ h)
theorem frl_kt {B : Nat} {w w' : World} (hb : Below B w w') (hk : KT w w') : FrL B w w' :=
  ⟨hb, fun g cur T fz hg hT => hk g cur T fz hg (by rcases hT with rfl | rfl <;> decide) (by rcases hT with rfl | rfl <;> decide)⟩
def elemB (h : NdH) : Bool := decide (h.name ≠ [])
theorem isText_any (h : NdH) (A1 A2 : Option Addr) (n1 c1 n2 c2 : Nat) (w : World) :
    Calls Tryz.prog 63 #[.agg #[.string (str h.name), .slice A1 n1 c1, .string (str h.text), .slice A2 n2 c2]] w fun e w' => e = .returned (.bool (!elemB h)) ∧ Below w.heap.size w w' := by
  have HBK := hide (below_one w (Obj.cells #[.string (str h.name), .slice A1 n1 c1, .string (str h.text), .slice A2 n2 c2] 33))
  obtain ⟨X, hX⟩ : ∃ X, X = str h.name := ⟨_, rfl⟩
  rw [← hX] at HBK ⊢
  by_cases hn : h.name = []
  · have e : elemB h = false := by simp [elemB, hn]
    have hX0 : X = ⟨#[]⟩ := by rw [hX, hn]; rfl
    rw [e]
    clear hX hn e
    subst hX0
    go_enter Tryz.func63, Tryz.ntmps63
    go_wp2_with fail
    go_ret
    exact ⟨rfl, HBK.out⟩
  · have e : elemB h = true := by simp [elemB, hn]
    have s1 : X.toList.isEmpty = false := by
      rw [hX, str_list]
      cases hx : h.name with
      | nil => exact absurd hx hn
      | cons _ _ => rfl
    rw [e]
    clear hX hn e
    go_enter Tryz.func63, Tryz.ntmps63
    go_wp2_with fail
    go_ret
    exact ⟨rfl, HBK.out⟩
theorem bl_one {w w1 w2 : World} (h : Below w.heap.size w w1) (h2 : Below w1.heap.size w1 w2) : Below w.heap.size w w2 := h.trans (h2.mono h.size)
end Go.Proofs.YtiejmkjpgjbodaaGreatDoor

namespace Go.Proofs.YtiejmkjpgjbodaaGreatDoor
open Go.RowKit
set_option linter.unusedVariables false
set_option linter.unusedSimpArgs false
set_option maxRecDepth 100000
theorem ahead_append (a : Addr) (w : World) : (nilAhead 423 312 (.pointer (some a)) "WriteString").run Tryz.prog w = .ok (some false) w := by kernel_rfl
def WSt (s : ByteArray) (B b i m : Nat) (N : Int) (W0 wr : World) : Prop := ∃ acc, WInv s.data.toList i m acc ∧ N = acc.length ∧ WBuf B b acc W0 wr
set_option maxHeartbeats 8000000 in
theorem gwrite_any (s : ByteArray) (B b G T n0 n1 n2 n4 n5 : Nat) (W0 w : World) (hT : Trie W0 G T n0 n1 n2 n4 n5) (hB : G < B ∧ T < B ∧ n0 < B ∧ n1 < B ∧ n2 < B ∧ n4 < B ∧ n5 < B) (hw : WBuf B b [] W0 w) (hs : s.size ≤ 17592186044416) :
    Calls Tryz.prog 308 #[.pointer (some ⟨G, 0, none⟩), .iface 312 (.pointer (some ⟨b, 0, none⟩)), .string s] w fun e w' => (∃ n, e = .returned (.tuple #[.int .i64 n, .nilIface])) ∧ WBuf B b (escG s.data.toList) W0 w' := by
  have HT := hide hT
  have HB := hide hB
  have HW0 := hide hw
  have HS := hide hs
  have hmt := meth_append
  have hmf : ∀ (fn : Fn) (first cap : Array Value) (w : World), (Instr.makeFunc fn first cap).run Tryz.prog w = .ok (.func fn first cap) w := fun _ _ _ _ => rfl
  have hna := ahead_append
  have HSL := hide (toList_length s)
  clear hT hB hw
  go_enter Tryz.func308, Tryz.ntmps308
  go_wp2_with (refine (getWriter_any b _).mono ?_; rintro e w1 ⟨rfl, rfl⟩)
  go_loopw [6, 7, 9, 10, 11, 12, 13, 14, 15, 16] (fun a6 a7 a9 _ a11 a12 _ _ _ _ wr => ∃ (i m : Nat) (N : Int), a12 = .int .i64 i ∧ a9 = .int .i64 m ∧ a6 = .int .i64 N ∧ a7 = .nilIface ∧ a11 = .bool false ∧ Hid (WSt s B b i m N W0 wr)) (fun _ _ _ _ _ a12 _ _ _ _ _ => s.size + 2 - (intOf a12).toNat)
  case atStart => exact ⟨0, 0, 0, rfl, rfl, rfl, rfl, rfl, hide ⟨[], ⟨Nat.le_refl _, by omega, by omega, by simp⟩, rfl, HW0.out⟩⟩
  case round =>
    obtain ⟨i, m, N, rfl, rfl, rfl, rfl, rfl, HST⟩ := hrel
    obtain ⟨hmi, hin, hmn⟩ : m ≤ i ∧ i ≤ s.size + 1 ∧ m ≤ s.size := by
      obtain ⟨acc, h, _, _⟩ := HST.out
      have := HSL.out
      exact ⟨h.1, by have := h.2.1; omega, by have := h.2.2.1; omega⟩
    have HTR : Hid (Trie wr G T n0 n1 n2 n4 n5) := hide (by
      obtain ⟨acc, _, _, h⟩ := HST.out
      exact HT.out.below h.below HB.out)
    obtain ⟨r0, r1, r2, r3, r4⟩ := HTR.out.root
    have rs := HTR.out.size
    by_cases h1 : i < s.size
    · have tA : decide ((i : Int) ≤ s.size) = true := decide_eq_true (by omega)
      have tB : ((i : Int) == s.size) = false := beq_eq_false_iff_ne.2 (by omega)
      have b1 : s[i].toNat < 256 := chr_lt _
      have b2 : (s[i].toNat : Int) < 256 := by omega
      have hd : s.data.toList.drop i = s[i] :: s.data.toList.drop (i + 1) := drop_cons s i h1
      by_cases hc : s[i] = 38 ∨ s[i] = 60 ∨ s[i] = 62 ∨ s[i] = 194
      · obtain ⟨j, nx, j5, hm1, hj⟩ := HTR.out.on hc
        have tj : ((j : Int) == 5) = false := beq_eq_false_iff_ne.2 (by omega)
        have j5' : (j : Int) < 5 := by omega
        clear hc
        cases hlk : lookL (s.data.toList.drop i) with
        | none =>
          have HN : ∀ w', Below wr.heap.size wr w' → Hid (WSt s B b (i + 1) m N W0 w') := fun w' hb => by
            obtain ⟨acc, h, hN, hW⟩ := HST.out
            exact hide ⟨acc, h.skip (by rw [HSL.out]; exact h1) hlk, hN, hW.kept hb⟩
          have HLK := hide (fun (w' : World) (h : Trie w' G T n0 n1 n2 n4 n5) => look_any (s.extract i s.size) G T n0 n1 n2 n4 n5 w' h)
          have HLV : Hid (lookV (lookL (s.extract i s.size).data.toList) = .tuple #[.string ⟨#[]⟩, .int .i64 0, .bool false]) := hide (by rw [extract_end, hlk]; rfl)
          clear hlk hd
          go_wp2_with fail
          go_quiet (fail)
          have HTQ : Trie (wr.drewN nq) G T n0 n1 n2 n4 n5 := HTR.out.drewN nq
          go_wp2_with (go_at_call 310; refine (HLK.out _ (by assumption)).mono ?_; rintro e w5 ⟨rfl, hb5⟩; rw [HLV.out]; have HB5 := hide hb5; clear hb5)
          go_roundw
          case rel => exact ⟨i + 1, m, N, by go_num, rfl, rfl, rfl, rfl, HN _ ((below_drewN _ _).trans HB5.out)⟩
          case measure => simp [intOf]; omega
        | some p =>
          obtain ⟨t, k⟩ := p
          have hp := lookL_some hlk
          obtain ⟨acc, hv, hNe, hW⟩ := HST.out
          have hlen := hv.len
          rw [HSL.out] at hlen
          have hh := hv.hit hlk
          rw [HSL.out] at hh
          have hik := hh.1
          have hk1 : 1 ≤ k := hp.1
          have tk : ((k : Int) == 0) = false := beq_eq_false_iff_ne.2 (by omega)
          have hE : (s.extract m i).data.toList = (s.data.toList.take i).drop m := extract_list s m i
          obtain ⟨E1, hE1⟩ : ∃ E1, E1 = s.extract m i := ⟨_, rfl⟩
          rw [← hE1] at hE
          have e1s : E1.size ≤ s.size := by rw [hE1]; have := extract_size_le s m i; omega
          obtain ⟨V, hV⟩ : ∃ V, V = str t := ⟨_, rfl⟩
          have vs : V.size ≤ 6 := by rw [hV, str_size]; exact hp.2.2.2.1
          have N0 : 0 ≤ N := by omega
          have Nb : N ≤ 105553116266496 := by omega
          have hl1 : acc.length + E1.size ≤ 140737488355328 := by omega
          have hl2 : (acc ++ E1.data.toList).length + V.size ≤ 140737488355328 := by rw [List.length_append, toList_length]; omega
          have HL1 := hide hl1
          have HL2 := hide hl2
          have HWA : Hid (∀ w', Below wr.heap.size wr w' → WBuf B b acc W0 w') := hide fun w' hb => hW.kept hb
          have HFIN : Hid (∀ w', WBuf B b (acc ++ E1.data.toList ++ V.data.toList) W0 w' → WSt s B b (i + k) (i + k) (N + E1.size + V.size) W0 w') := hide fun w' h => ⟨_, by rw [hE, hV, str_toList]; exact hh.2, by rw [List.length_append, List.length_append, toList_length, toList_length, hNe]; omega, h⟩
          have HLK := hide (fun (w' : World) (h : Trie w' G T n0 n1 n2 n4 n5) => look_any (s.extract i s.size) G T n0 n1 n2 n4 n5 w' h)
          have HLV : Hid (lookV (lookL (s.extract i s.size).data.toList) = .tuple #[.string V, .int .i64 k, .bool true]) := hide (by rw [extract_end, hlk, hV]; rfl)
          have HE1 : Hid (E1 = s.extract m i) := hide hE1
          clear hlk hd hp hv hNe hW hlen hh hE hE1 hV hl1 hl2 HST
          go_wp2_with fail
          go_quiet (fail)
          have HTQ : Trie (wr.drewN nq) G T n0 n1 n2 n4 n5 := HTR.out.drewN nq
          go_wp2_with (go_at_call 310; refine (HLK.out _ (by assumption)).mono ?_; rintro e w5 ⟨rfl, hb5⟩; rw [HLV.out]; have HB5 := hide hb5; clear hb5)
          go_region_with (go_at_call 320; rw [← HE1.out]; refine (appender_any B b acc E1 W0 _ (HWA.out _ (by first | exact (below_drewN _ _).trans HB5.out | exact ((below_drewN _ _).trans HB5.out).drew | exact (((below_drewN _ _).trans HB5.out).drew).drew)) HL1.out).mono ?_; rintro e w6 ⟨rfl, hW6⟩; have HW6 := hide hW6; clear hW6)
          all_goals
            try go_wp2_with (go_at_call 320; refine (appender_any B b (acc ++ E1.data.toList) V W0 _ HW6.out HL2.out).mono ?_; rintro e w7 ⟨rfl, hW7⟩; have HW7 := hide hW7; clear hW7)
            go_roundw
            case rel => exact ⟨i + k, i + k, N + E1.size + V.size, by go_num, by go_num, rfl, rfl, rfl, hide (HFIN.out _ HW7.out)⟩
            case measure => simp [intOf]; omega
      · have hlk : lookL (s.data.toList.drop i) = none := by rw [hd]; exact look_off hc
        have HN : ∀ w', Below wr.heap.size wr w' → Hid (WSt s B b (i + 1) m N W0 w') := fun w' hb => by
          obtain ⟨acc, h, hN, hW⟩ := HST.out
          exact hide ⟨acc, h.skip (by rw [HSL.out]; exact h1) hlk, hN, hW.kept hb⟩
        clear hlk hd
        by_cases h160 : s[i] = 160
        · have hm1 : wr.cell? ⟨G, 6 + s[i].toNat, none⟩ = some (.int .u8 3) := by rw [HTR.out.map s[i], h160]; rfl
          have t3 := HTR.out.t3
          clear hc h160
          go_wp2_with fail
          go_quiet (fail)
          go_wp2_with fail
          go_roundw
          case rel => exact ⟨i + 1, m, N, by go_num, rfl, rfl, rfl, rfl, HN _ (below_drewN _ _)⟩
          case measure => simp [intOf]; omega
        · have hm1 : wr.cell? ⟨G, 6 + s[i].toNat, none⟩ = some (.int .u8 5) := by
            rw [HTR.out.map s[i], mapC_none ⟨fun e => hc (.inl e), fun e => hc (.inr (.inl e)), fun e => hc (.inr (.inr (.inl e))), h160, fun e => hc (.inr (.inr (.inr e)))⟩]
            rfl
          clear hc h160
          go_wp2_with fail
          go_quiet (fail)
          go_wp2_with fail
          go_roundw
          case rel => exact ⟨i + 1, m, N, by go_num, rfl, rfl, rfl, rfl, HN _ (below_drewN _ _)⟩
          case measure => simp [intOf]; omega
    · by_cases h2 : i = s.size
      · have HN : ∀ w', Below wr.heap.size wr w' → Hid (WSt s B b (i + 1) m N W0 w') := fun w' hb => by
          obtain ⟨acc, h, hN, hW⟩ := HST.out
          rw [h2, ← HSL.out] at h ⊢
          exact hide ⟨acc, h.last, hN, hW.kept hb⟩
        have tA : decide ((i : Int) ≤ s.size) = true := decide_eq_true (by omega)
        have tB : ((i : Int) == s.size) = true := beq_iff_eq.2 (by omega)
        have hi1 : i ≤ s.size := by omega
        have HLV : Hid (lookV (lookL ByteArray.empty.data.toList) = .tuple #[.string ⟨#[]⟩, .int .i64 0, .bool false]) := hide rfl
        have H2 := hide h2
        clear h1 h2 HST
        go_wp2_with (go_at_call 310; refine (look_any ByteArray.empty G T n0 n1 n2 n4 n5 _ HTR.out).mono ?_; rintro e w5 ⟨rfl, hb5⟩; rw [HLV.out]; have HB5 := hide hb5; clear hb5)
        go_roundw
        case rel => exact ⟨i + 1, m, N, by rw [H2.out]; go_num, rfl, rfl, rfl, rfl, HN _ HB5.out⟩
        case measure =>
          have := H2.out
          simp [intOf]; omega
      · have h3 : i = s.size + 1 := by omega
        subst h3
        obtain ⟨acc, hv, hNe, hW⟩ := HST.out
        have hlen := hv.len
        rw [HSL.out] at hlen
        rw [← HSL.out] at hv
        have hf := hv.fin
        have tA : decide (((s.size + 1 : Nat) : Int) ≤ s.size) = false := decide_eq_false (by omega)
        have tA' : decide ((s.size : Int) + 1 ≤ s.size) = false := decide_eq_false (by omega)
        by_cases hms : m = s.size
        · have tm : ((m : Int) == s.size) = true := beq_iff_eq.2 (by omega)
          have HF : Hid (WBuf B b (escG s.data.toList) W0 wr) := hide (by
            rw [← hf, hms, List.drop_eq_nil_of_le (by rw [HSL.out]; exact Nat.le_refl _), List.append_nil]; exact hW)
          clear hv hNe hW hlen hf hms HST
          go_wp2_with fail
          go_ret2
          exact ⟨⟨_, rfl⟩, HF.out⟩
        · have tm : ((m : Int) == s.size) = false := beq_eq_false_iff_ne.2 (by omega)
          obtain ⟨E1, hE1⟩ : ∃ E1, E1 = s.extract m s.size := ⟨_, rfl⟩
          have e1s : E1.size ≤ s.size := by rw [hE1]; have := extract_size_le s m s.size; omega
          have N0 : 0 ≤ N := by omega
          have Nb : N ≤ 105553116266496 := by omega
          have HL1 : Hid (acc.length + E1.size ≤ 140737488355328) := hide (by omega)
          have HWA : Hid (∀ w', Below wr.heap.size wr w' → WBuf B b acc W0 w') := hide fun w' hb => hW.kept hb
          have HFIN : Hid (∀ w', WBuf B b (acc ++ E1.data.toList) W0 w' → WBuf B b (escG s.data.toList) W0 w') := hide fun w' h => by
            rw [hE1, extract_end, hf] at h; exact h
          have HE1 : Hid (E1 = s.extract m s.size) := hide hE1
          clear hv hNe hW hlen hf hms HST hE1
          go_wp2_with fail
          go_region_with (go_at_call 320; rw [← HE1.out]; refine (appender_any B b acc E1 W0 _ (HWA.out _ (by first | exact Below.refl _ _ | exact (Below.refl _ _).drew | exact (Below.refl _ _).drew.drew)) HL1.out).mono ?_; rintro e w6 ⟨rfl, hW6⟩; have HW6 := hide hW6; clear hW6)
          all_goals
            try go_wp2_with fail
            go_ret2
            exact ⟨⟨_, rfl⟩, HFIN.out _ HW6.out⟩
end Go.Proofs.YtiejmkjpgjbodaaGreatDoor

namespace Go.Proofs.YtiejmkjpgjbodaaGreatDoor
open Go.RowKit
set_option linter.unusedVariables false
set_option linter.unusedSimpArgs false
set_option maxRecDepth 100000
theorem wpList_wbuf_make {ops : Array Oper} {rest : List Oper} {o : Oper} {a : Act} {Q : Exit → Act → World → Prop} {w : World} (hgd : o.guard = none) (x y : Operand)
    (ho : o.op = .makeSlice 311 x y) (B : Nat) (W0 : World) (hb : Below B W0 w) (hB : B ≤ w.heap.size) (c : Nat) (C : Int) (hx : a.eval x = .int .i64 0) (hy : a.eval y = .int .i64 C) (hC : C = c) (hc : c ≤ 281474976710656)
    (h : ∀ v' w', Buf B v' [] W0 w' → wpList Tryz.prog ops Q rest (a.put o.dst v') w') : wpList Tryz.prog ops Q (o :: rest) a w := by
  obtain ⟨i0, hi, hz0, hz1, hz2⟩ := info_parts info_u8
  refine wpList_make_own w hgd x y 311 ho B 5 i0 (.int .u8 0) 1 Tryz.underlying311 hi hz0 hz1 .i64 .i64 C c hx hy hC (by rw [hz2]; omega) (by unfold maxLen; omega) hB ?_
  intro w' ho' hg
  exact h _ _ ⟨ho', hb.grown hg hB (by simp), Nat.le_trans hB hg.size⟩
theorem buf_convertW {B : Nat} {v : Value} {l : List UInt8} {W0 w : World} (h : Buf B v l W0 w) : (convert 311 9 v).run Tryz.prog w = .ok (.string (str l)) w := by
  rcases h.1.2 with ⟨rfl, hl⟩ | ⟨g, cap, cur, rfl, _⟩
  · have : l = [] := List.eq_nil_of_length_eq_zero hl
    subst this
    exact run_convert_bytes_nil w 311 5 Tryz.underlying311 Tryz.underlying5 0 0 9 Tryz.underlying9
  · have hc := h.1.cells (g := g) rfl
    have hr := run_convert_bytes_arg (P := Tryz.prog) w 311 5 Tryz.underlying311 Tryz.underlying5 g 0 l.length cap (l.map fun b => (b.toNat : Int)) (by simp) (fun i hi => by
      have h1 := hc i (.int .u8 l[i].toNat) (by simp [cellsOf, hi])
      rw [Addr.add_lit] at h1
      rw [h1]
      simp [List.getD, hi]) 9 Tryz.underlying9
    rw [hr]
    refine congrArg (fun x => Result.ok (Value.string x) w) ?_
    apply ext_list
    rw [strOfNums_data, str_toList, List.map_map]
    conv => rhs; rw [← List.map_id l]
    apply List.map_congr_left
    intro b _
    simp
set_option maxHeartbeats 4000000 in
theorem greplace_any (s : ByteArray) (G T n0 n1 n2 n4 n5 : Nat) (w : World) (hT : Trie w G T n0 n1 n2 n4 n5) (hB : G < w.heap.size ∧ T < w.heap.size ∧ n0 < w.heap.size ∧ n1 < w.heap.size ∧ n2 < w.heap.size ∧ n4 < w.heap.size ∧ n5 < w.heap.size) (hs : s.size ≤ 17592186044416) :
    Calls Tryz.prog 307 #[.pointer (some ⟨G, 0, none⟩), .string s] w fun e w' => e = .returned (.string (str (escG s.data.toList))) ∧ Below w.heap.size w w' := by
  have HT := hide hT
  have HB := hide hB
  have HS := hide hs
  clear hT hB
  go_enter Tryz.func307, Tryz.ntmps307
  go_wp2_with (first
    | (refine wpList_wbuf_make rfl _ _ rfl w.heap.size w (Below.refl _ _) (Nat.le_refl _) s.size s.size rfl rfl rfl (by omega) ?_; intro v0 w0 hb0; obtain ⟨A0, c0, rfl⟩ := hb0.slice_len; have HB0 := hide hb0; clear hb0)
    | (go_at_call 308; refine (gwrite_any s w.heap.size w0.heap.size G T n0 n1 n2 n4 n5 w _ HT.out HB.out (by first | exact ⟨HB0.out.2.2, _, Box.new _ _ _, HB0.out.alloc _⟩ | exact ⟨HB0.out.2.2, _, (Box.new _ _ _).set _, (HB0.out.alloc _).setBox (Box.new _ _ _) (by decide) HB0.out.2.2 _⟩) HS.out).mono ?_; rintro e w2 ⟨⟨n, rfl⟩, hW2⟩; obtain ⟨_, v2, hx2, hf2⟩ := hW2; have c2 := hx2.cell; have hc2 := buf_convertW hf2; have HF2 := hide hf2; clear hx2 hf2))
  go_ret
  exact ⟨rfl, HF2.out.below⟩
end Go.Proofs.YtiejmkjpgjbodaaGreatDoor

namespace Go.Proofs.YtiejmkjpgjbodaaGreatDoor
open Go.RowKit
set_option linter.unusedVariables false
set_option linter.unusedSimpArgs false
set_option maxRecDepth 100000
def leafW (w : World) (b : Nat) (val : ByteArray) (p : Int) : World := (w.setCell ⟨b, 0, none⟩ (.string val)).setCell ⟨b, 1, none⟩ (.int .i64 p)
set_option maxHeartbeats 4000000 in
theorem add_leaf (b : Nat) (val v0 : ByteArray) (p : Int) (g : Addr) (w : World) (c0 : w.cell? ⟨b, 0, none⟩ = some (.string v0)) (c1 : w.cell? ⟨b, 1, none⟩ = some (.int .i64 0)) (f : ∀ i : Nat, w.frozen? ⟨b, i, none⟩ = false) :
    Calls Tryz.prog 243 #[.pointer (some ⟨b, 0, none⟩), .string ⟨#[]⟩, .string val, .int .i64 p, .pointer (some g)] w fun e w' => e = .returned (.tuple #[]) ∧ w' = leafW w b val p := by
  have f0 := f 0
  have f1 := f 1
  have c1' : (w.setCell ⟨b, 0, none⟩ (.string val)).cell? ⟨b, 1, none⟩ = some (.int .i64 0) := (World.cell?_setCell_other _ _ _ _ (by intro e; injection e with _ e _; exact absurd e (by decide))).trans c1
  have f1' : (w.setCell ⟨b, 0, none⟩ (.string val)).frozen? ⟨b, 1, none⟩ = false := by rw [World.frozen?_setCell]; exact f1
  clear f
  go_enter Tryz.func243, Tryz.ntmps243
  go_wp2_with fail
  refine bodyPost_ret (results_none rfl _ _ _) rfl ?_
  exact ⟨rfl, rfl⟩
def preW (w : World) (b : Nat) (key : ByteArray) : World := ((w.setCell ⟨b, 2, none⟩ (.string key)).setCell ⟨b, 3, none⟩ (.pointer (some ⟨w.heap.size, 0, none⟩))).alloc (.cells #[.string ⟨#[]⟩, .int .i64 0, .string ⟨#[]⟩, .pointer none, .slice none 0 0] 256)
theorem pre_size (w : World) (b : Nat) (key : ByteArray) (x : Value) : ((w.setCell ⟨b, 2, none⟩ (.string key)).setCell ⟨b, 3, none⟩ x).heap.size = w.heap.size := by simp [World.setCell]
set_option maxHeartbeats 4000000 in
theorem add_pre (b : Nat) (key val : ByteArray) (x3 : Value) (p : Int) (g : Addr) (w : World) (hb : b < w.heap.size) (hk : key.toList.isEmpty = false) (c2 : w.cell? ⟨b, 2, none⟩ = some (.string ⟨#[]⟩)) (c3 : w.cell? ⟨b, 3, none⟩ = some x3) (c4 : w.cell? ⟨b, 4, none⟩ = some (.slice none 0 0)) (f : ∀ i : Nat, w.frozen? ⟨b, i, none⟩ = false) :
    Calls Tryz.prog 243 #[.pointer (some ⟨b, 0, none⟩), .string key, .string val, .int .i64 p, .pointer (some g)] w fun e w' => e = .returned (.tuple #[]) ∧ w' = leafW (preW w b key) w.heap.size val p := by
  have f2 := f 2
  have f3 := f 3
  have HC := hide (add_leaf w.heap.size val ⟨#[]⟩ p g (preW w b key) (by rw [preW, World.cell?_alloc_at _ _ _ _ (pre_size _ _ _ _).symm]; rfl) (by rw [preW, World.cell?_alloc_at _ _ _ _ (pre_size _ _ _ _).symm]; rfl) (fun i => by rw [preW]; exact World.frozen?_alloc_at _ _ _ _ (pre_size _ _ _ _).symm))
  clear f
  go_enter Tryz.func243, Tryz.ntmps243
  go_wp2_with (go_at_call 243; refine HC.out.mono ?_; rintro e w5 ⟨rfl, rfl⟩)
  go_end0
  exact ⟨rfl, rfl⟩
end Go.Proofs.YtiejmkjpgjbodaaGreatDoor

namespace Go.Proofs.YtiejmkjpgjbodaaGreatDoor
open Go.RowKit
set_option linter.unusedVariables false
set_option linter.unusedSimpArgs false
set_option maxRecDepth 100000
def tabW (w : World) (T m : Nat) : World := (w.alloc (.cells #[.string ⟨#[]⟩, .int .i64 0, .string ⟨#[]⟩, .pointer none, .slice none 0 0] 256)).setCell ⟨T, m, none⟩ (.pointer (some ⟨w.heap.size, 0, none⟩))
set_option maxHeartbeats 4000000 in
theorem add_root (G T m : Nat) (s val : ByteArray) (p : Int) (w : World) (W5 : Nat → World) (hT : T < w.heap.size) (h0 : 0 < s.size) (m5 : m < 5) (c2 : w.cell? ⟨G, 2, none⟩ = some (.string ⟨#[]⟩)) (c4 : w.cell? ⟨G, 4, none⟩ = some (.slice (some ⟨T, 0, none⟩) 5 5))
    (cm : w.cell? ⟨G, 6 + s[0].toNat, none⟩ = some (.int .u8 (m : Int))) (ct : w.cell? ⟨T, m, none⟩ = some (.pointer none)) (ft : w.frozen? ⟨T, m, none⟩ = false) (hGT : G ≠ T)
    (hin : ∀ k, Calls Tryz.prog 243 #[.pointer (some ⟨w.heap.size, 0, none⟩), .string (s.extract 1 s.size), .string val, .int .i64 p, .pointer (some ⟨G, 0, none⟩)] ((tabW w T m).drewN k) fun e w' => e = .returned (.tuple #[]) ∧ w' = W5 k) :
    Calls Tryz.prog 243 #[.pointer (some ⟨G, 0, none⟩), .string s, .string val, .int .i64 p, .pointer (some ⟨G, 0, none⟩)] w fun e w' => e = .returned (.tuple #[]) ∧ ∃ k, w' = W5 k := by
  have q1 : s.toList.isEmpty = false := by
    rw [bytes_list]
    cases e : s.data.toList with
    | nil => rw [← toList_length, e] at h0; exact absurd h0 (Nat.lt_irrefl _)
    | cons a r => rfl
  have k1 : (1 : Int) ≤ s.size := by omega
  have b1 : s[0].toNat < 256 := chr_lt _
  have b2 : (s[0].toNat : Int) < 256 := by omega
  have m5' : (m : Int) < 5 := by omega
  have lG := World.block_lt_of_cell? w _ c4
  have HX : Hid (∀ k, ((w.drewN k).alloc (.cells #[.string ⟨#[]⟩, .int .i64 0, .string ⟨#[]⟩, .pointer none, .slice none 0 0] 256)).cell? ⟨T, m, none⟩ = some (.pointer none) ∧ ((w.drewN k).alloc (.cells #[.string ⟨#[]⟩, .int .i64 0, .string ⟨#[]⟩, .pointer none, .slice none 0 0] 256)).frozen? ⟨T, m, none⟩ = false ∧ ((w.drewN k).alloc (.cells #[.string ⟨#[]⟩, .int .i64 0, .string ⟨#[]⟩, .pointer none, .slice none 0 0] 256)).cell? ⟨G, 4, none⟩ = some (.slice (some ⟨T, 0, none⟩) 5 5)) := hide fun k =>
    ⟨(World.cell?_alloc_past _ _ _ (show T < (w.drewN k).heap.size from hT)).trans ct, (World.frozen?_alloc_past _ _ _ (show T < (w.drewN k).heap.size from hT)).trans ft, (World.cell?_alloc_past _ _ _ (show G < (w.drewN k).heap.size from lG)).trans c4⟩
  have HIN := hide hin
  clear hin
  go_enter Tryz.func243, Tryz.ntmps243
  go_wp2_with fail
  go_quiet (fail)
  obtain ⟨x1, x2, x3⟩ := HX.out nq
  go_wp2_with fail
  have hTG : ¬T = G := fun e => hGT e.symm
  go_region_with (go_at_call 243; refine (HIN.out (nq + 1)).mono ?_; rintro e w5 ⟨rfl, rfl⟩)
  all_goals
    try go_wp2_with fail
    go_end0
    exact ⟨rfl, _, rfl⟩
end Go.Proofs.YtiejmkjpgjbodaaGreatDoor

namespace Go.Proofs.YtiejmkjpgjbodaaGreatDoor
open Go.RowKit
set_option linter.unusedVariables false
set_option linter.unusedSimpArgs false
set_option maxRecDepth 100000
def nilS : Value := .slice none 0 0
def RepSt (w0 : World) (R G : Nat) (c34 c92 : Value) (l : Nat) (x y : ByteArray) (wr : World) : Prop :=
  Below w0.heap.size w0 wr ∧ w0.heap.size ≤ R ∧ w0.heap.size ≤ G ∧ R ≠ G ∧
  (∀ i : Nat, i < 256 → wr.cell? ⟨R, i, none⟩ = some (if i = 34 then c34 else if i = 92 then c92 else nilS)) ∧ (∀ i : Nat, wr.frozen? ⟨R, i, none⟩ = false) ∧
  wr.cell? ⟨R, 256, none⟩ = some (.slice (some ⟨G, 0, none⟩) l 2) ∧ wr.cell? ⟨G, 0, none⟩ = some (.string x) ∧ wr.cell? ⟨G, 1, none⟩ = some (.string y) ∧ (∀ i : Nat, wr.frozen? ⟨G, i, none⟩ = false)
def TwoAt (w : World) (g : Nat) (x y : Int) (B : Nat) : Prop := w.cell? ⟨g, 0, none⟩ = some (.int .u8 x) ∧ w.cell? ⟨g, 1, none⟩ = some (.int .u8 y) ∧ B + 2 ≤ g
theorem ne_off {g i j : Nat} (h : i ≠ j) : (⟨g, i, none⟩ : Addr) ≠ ⟨g, j, none⟩ := fun e => h (by injection e)
theorem ne_blk {g g' i j : Nat} (h : g ≠ g') : (⟨g, i, none⟩ : Addr) ≠ ⟨g', j, none⟩ := fun e => h (by injection e)
section
variable {w0 wr : World} {R G l : Nat} {c34 c92 : Value} {x y : ByteArray}
theorem RepSt.ltR (h : RepSt w0 R G c34 c92 l x y wr) : R < wr.heap.size := World.block_lt_of_cell? wr _ h.2.2.2.2.2.2.1
theorem RepSt.ltG (h : RepSt w0 R G c34 c92 l x y wr) : G < wr.heap.size := World.block_lt_of_cell? wr _ h.2.2.2.2.2.2.2.1
theorem RepSt.below (h : RepSt w0 R G c34 c92 l x y wr) : Below w0.heap.size w0 wr := h.1
theorem RepSt.kept {w' : World} (h : RepSt w0 R G c34 c92 l x y wr) (hb : Below wr.heap.size wr w') : RepSt w0 R G c34 c92 l x y w' := by
  have lR := h.ltR
  have lG := h.ltG
  obtain ⟨B0, hR, hG, hne, hc, hf, h256, hG0, hG1, hfG⟩ := h
  exact ⟨B0.trans (hb.mono (Nat.le_of_lt (Nat.lt_of_le_of_lt hR lR))), hR, hG, hne, fun i hi => (hb.cell (p := ⟨R, i, none⟩) lR).trans (hc i hi), fun i => (hb.frozen (p := ⟨R, i, none⟩) lR).trans (hf i),
    (hb.cell (p := ⟨R, 256, none⟩) lR).trans h256, (hb.cell (p := ⟨G, 0, none⟩) lG).trans hG0, (hb.cell (p := ⟨G, 1, none⟩) lG).trans hG1, fun i => (hb.frozen (p := ⟨G, i, none⟩) lG).trans (hfG i)⟩
theorem RepSt.alloc (h : RepSt w0 R G c34 c92 l x y wr) (o : Obj) : RepSt w0 R G c34 c92 l x y (wr.alloc o) := h.kept ((Below.refl _ wr).alloc (Nat.le_refl _) _)
end
theorem TwoAt.set {w : World} {g B : Nat} {x y : Int} (h : TwoAt w g x y B) {p : Addr} (hp : p.block ≠ g) (v : Value) : TwoAt (w.setCell p v) g x y B :=
  ⟨(World.cell?_setCell_other _ _ _ _ (fun e => hp (by rw [e]))).trans h.1, (World.cell?_setCell_other _ _ _ _ (fun e => hp (by rw [e]))).trans h.2.1, h.2.2⟩
theorem TwoAt.kept {w w' : World} {g B : Nat} {x y : Int} (h : TwoAt w g x y B) (hb : Below w.heap.size w w') : TwoAt w' g x y B := by
  have lg : g < w.heap.size := World.block_lt_of_cell? w _ h.1
  exact ⟨(hb.cell (p := ⟨g, 0, none⟩) lg).trans h.1, (hb.cell (p := ⟨g, 1, none⟩) lg).trans h.2.1, h.2.2⟩
theorem TwoAt.alloc {w : World} {g B : Nat} {x y : Int} (h : TwoAt w g x y B) (o : Obj) : TwoAt (w.alloc o) g x y B := h.kept ((Below.refl _ w).alloc (Nat.le_refl _) _)
def RepEnd (w0 : World) (R : Nat) (wr : World) : Prop :=
  ∃ G g1 c1 g2 c2 : Nat, RepSt w0 R G (.slice (some ⟨g1, 0, none⟩) 2 c1) (.slice (some ⟨g2, 0, none⟩) 2 c2) 2 ⟨#[92]⟩ ⟨#[34]⟩ wr ∧ TwoAt wr g1 92 34 w0.heap.size ∧ TwoAt wr g2 92 92 w0.heap.size
theorem RepEnd.below {w0 wr : World} {R : Nat} (h : RepEnd w0 R wr) : Below w0.heap.size w0 wr := by obtain ⟨_, _, _, _, _, h, _⟩ := h; exact h.below
theorem RepEnd.kept {w0 wr w' : World} {R : Nat} (h : RepEnd w0 R wr) (hb : Below wr.heap.size wr w') : RepEnd w0 R w' := by
  obtain ⟨G, g1, c1, g2, c2, h, t1, t2⟩ := h
  exact ⟨G, g1, c1, g2, c2, h.kept hb, t1.kept hb, t2.kept hb⟩
def RepAt (W : World) (b R : Nat) (wr : World) : Prop :=
  ∃ G g1 c1 g2 c2 : Nat, RepSt W R G (.slice (some ⟨g1, 0, none⟩) 2 c1) (.slice (some ⟨g2, 0, none⟩) 2 c2) 2 ⟨#[92]⟩ ⟨#[34]⟩ wr ∧ TwoAt wr g1 92 34 0 ∧ TwoAt wr g2 92 92 0 ∧ W.heap.size ≤ b ∧ b < R ∧ b < G ∧ b < g1 ∧ b < g2
theorem RepEnd.at {W w0 wr : World} {R b : Nat} (h : RepEnd w0 R wr) (hb : Below W.heap.size W w0) (hW : W.heap.size ≤ b) (hl : b < w0.heap.size) : RepAt W b R wr := by
  obtain ⟨G, g1, c1, g2, c2, ⟨B0, hR, hG, hr⟩, t1, t2⟩ := h
  exact ⟨G, g1, c1, g2, c2, ⟨hb.trans (B0.mono hb.size), Nat.le_trans hb.size hR, Nat.le_trans hb.size hG, hr⟩, ⟨t1.1, t1.2.1, by have := t1.2.2; omega⟩, ⟨t2.1, t2.2.1, by have := t2.2.2; omega⟩, hW, by omega, by omega, by have := t1.2.2; omega, by have := t2.2.2; omega⟩
theorem RepAt.below {W wr : World} {b R : Nat} (h : RepAt W b R wr) : Below W.heap.size W wr := by obtain ⟨_, _, _, _, _, h, _⟩ := h; exact h.below
theorem RepAt.set {W wr : World} {b R : Nat} (h : RepAt W b R wr) (i : Nat) (v : Value) : RepAt W b R (wr.setCell ⟨b, i, none⟩ v) := by
  obtain ⟨G, g1, c1, g2, c2, ⟨B0, hR, hG, hne, hc, hf, h256, hG0, hG1, hfG⟩, t1, t2, hW, l1, l2, l3, l4⟩ := h
  have nR : b ≠ R := Nat.ne_of_lt l1
  have nG : b ≠ G := Nat.ne_of_lt l2
  exact ⟨G, g1, c1, g2, c2, ⟨B0.setCell hW _, hR, hG, hne, fun j hj => (World.cell?_setCell_other _ _ _ _ (ne_blk nR)).trans (hc j hj), fun j => by rw [World.frozen?_setCell]; exact hf j,
    (World.cell?_setCell_other _ _ _ _ (ne_blk nR)).trans h256, (World.cell?_setCell_other _ _ _ _ (ne_blk nG)).trans hG0, (World.cell?_setCell_other _ _ _ _ (ne_blk nG)).trans hG1, fun j => by rw [World.frozen?_setCell]; exact hfG j⟩,
    t1.set (p := ⟨b, i, none⟩) (Nat.ne_of_lt l3) v, t2.set (p := ⟨b, i, none⟩) (Nat.ne_of_lt l4) v, hW, l1, l2, l3, l4⟩
theorem RepAt.kept {W wr w' : World} {b R : Nat} (h : RepAt W b R wr) (hb : Below wr.heap.size wr w') : RepAt W b R w' := by
  obtain ⟨G, g1, c1, g2, c2, h, t1, t2, hr⟩ := h
  exact ⟨G, g1, c1, g2, c2, h.kept hb, t1.kept hb, t2.kept hb, hr⟩
theorem RepAt.drew {W wr : World} {b R : Nat} (h : RepAt W b R wr) : RepAt W b R wr.drew := h.kept ((Below.refl _ wr).drew)
theorem RepSt.start (w : World) (t1 t2 : TypeId) : RepSt w (w.heap.size + 1) w.heap.size nilS nilS 0 ⟨#[]⟩ ⟨#[]⟩
    ((w.alloc (.cells #[.string ⟨#[]⟩, .string ⟨#[]⟩] t1)).alloc (.cells (List.replicate 256 nilS ++ [Value.slice (some ⟨w.heap.size, 0, none⟩) 0 2]).toArray t2)) := by
  have es : (w.alloc (.cells #[.string ⟨#[]⟩, .string ⟨#[]⟩] t1)).heap.size = w.heap.size + 1 := World.size_alloc ..
  have lG : w.heap.size < (w.alloc (.cells #[.string ⟨#[]⟩, .string ⟨#[]⟩] t1)).heap.size := by rw [es]; omega
  refine ⟨((Below.refl _ w).alloc (Nat.le_refl _) _).alloc (Nat.le_of_lt lG) _, Nat.le_succ _, Nat.le_refl _, by omega, fun i hi => ?_, fun i => ?_, ?_, ?_, ?_, fun i => ?_⟩
  · rw [World.cell?_alloc_at _ _ _ _ es.symm, List.getElem?_toArray, List.getElem?_append_left (by rw [List.length_replicate]; exact hi), List.getElem?_replicate, if_pos hi]
    simp
  · exact World.frozen?_alloc_at _ _ _ _ es.symm
  · rw [World.cell?_alloc_at _ _ _ _ es.symm, List.getElem?_toArray, List.getElem?_append_right (by rw [List.length_replicate]; exact Nat.le_refl _), List.length_replicate]
    rfl
  · rw [World.cell?_alloc_past _ _ _ lG, World.cell?_alloc_at _ _ _ _ rfl]; rfl
  · rw [World.cell?_alloc_past _ _ _ lG, World.cell?_alloc_at _ _ _ _ rfl]; rfl
  · rw [World.frozen?_alloc_past _ _ _ lG]; exact World.frozen?_alloc_at _ _ _ _ rfl
end Go.Proofs.YtiejmkjpgjbodaaGreatDoor

namespace Go.Proofs.YtiejmkjpgjbodaaGreatDoor
open Go.RowKit
set_option linter.unusedVariables false
set_option linter.unusedSimpArgs false
set_option maxRecDepth 100000
def keyE (k : Nat) : ByteArray := match k with | 0 => ⟨#[38]⟩ | 1 => ⟨#[60]⟩ | 2 => ⟨#[62]⟩ | _ => ⟨#[194, 160]⟩
def valE (k : Nat) : ByteArray := match k with | 0 => str ampT | 1 => str ltT | 2 => str gtT | _ => str nbT
def OldNewE (g : Nat) (w : World) : Prop := ∀ k, k < 4 → w.cell? ⟨g, 2 * k, none⟩ = some (.string (keyE k)) ∧ w.cell? ⟨g, 2 * k + 1, none⟩ = some (.string (valE k))
theorem OldNewE.kept {g : Nat} {w w' : World} (h : OldNewE g w) (hg : g < w.heap.size) (hb : Below w.heap.size w w') : OldNewE g w' := fun k hk => ⟨(hb.cell (p := ⟨g, 2 * k, none⟩) hg).trans (h k hk).1, (hb.cell (p := ⟨g, 2 * k + 1, none⟩) hg).trans (h k hk).2⟩
def keysTo (k : Nat) : List Nat := match k with | 0 => [] | 1 => [38] | 2 => [38, 60] | 3 => [38, 60, 62] | _ => [38, 60, 62, 194, 160]
def inI (m : List Nat) (j : Nat) : Nat := if j ∈ m then 1 else 0
def cntI (k : Nat) : Nat := (if 38 < k then 1 else 0) + (if 60 < k then 1 else 0) + (if 62 < k then 1 else 0) + (if 160 < k then 1 else 0) + (if 194 < k then 1 else 0)
def tabI (j : Nat) : Nat := if inI [38, 60, 62, 194, 160] j = 1 then cntI j else 5
theorem cnt_step : ∀ k, k < 256 → cntI (k + 1) = cntI k + inI [38, 60, 62, 194, 160] k := by decide +kernel
theorem cnt_le : ∀ k, k < 257 → cntI k ≤ 5 := by decide +kernel
theorem inI_two (m : List Nat) (k : Nat) : inI m k = 0 ∨ inI m k = 1 := by unfold inI; split <;> simp
theorem tab_map (c : UInt8) : tabI c.toNat = mapC c := u8_all (p := fun c => tabI c.toNat = mapC c) (by decide +kernel) c
structure GSt (B : Nat) (W0 : World) (G : Nat) (sz : Nat) (f : Nat → Nat) (w : World) : Prop where
  below : Below B W0 w
  lo : B ≤ G
  c0 : w.cell? ⟨G, 0, none⟩ = some (.string ⟨#[]⟩)
  c1 : w.cell? ⟨G, 1, none⟩ = some (.int .i64 0)
  c2 : w.cell? ⟨G, 2, none⟩ = some (.string ⟨#[]⟩)
  c3 : w.cell? ⟨G, 3, none⟩ = some (.pointer none)
  c4 : w.cell? ⟨G, 4, none⟩ = some (.slice none 0 0)
  c5 : w.cell? ⟨G, 5, none⟩ = some (.int .i64 sz)
  map : ∀ j, j < 256 → w.cell? ⟨G, 6 + j, none⟩ = some (.int .u8 (f j))
  fr : ∀ i : Nat, w.frozen? ⟨G, i, none⟩ = false
theorem zero_gen : Tryz.zeroCells258.toList = [.string ⟨#[]⟩, .int .i64 0, .string ⟨#[]⟩, .pointer none, .slice none 0 0, .int .i64 0] ++ List.replicate 256 (.int .u8 0) := by kernel_rfl
theorem GSt.new (w : World) : GSt w.heap.size w w.heap.size 0 (fun _ => 0) (w.alloc (.cells Tryz.zeroCells258 258)) := by
  have key : ∀ i : Nat, (w.alloc (.cells Tryz.zeroCells258 258)).cell? ⟨w.heap.size, i, none⟩ = ([Value.string ⟨#[]⟩, .int .i64 0, .string ⟨#[]⟩, .pointer none, .slice none 0 0, .int .i64 0] ++ List.replicate 256 (.int .u8 0))[i]? := by
    intro i
    rw [World.cell?_alloc_at _ _ _ _ rfl, ← Array.getElem?_toList, zero_gen]
  refine ⟨(Below.refl _ w).alloc (Nat.le_refl _) _, Nat.le_refl _, key 0, key 1, key 2, key 3, key 4, key 5, fun j hj => ?_, fun i => World.frozen?_alloc_at _ _ _ _ rfl⟩
  rw [key, List.getElem?_append_right (by show 6 ≤ 6 + j; omega), List.getElem?_replicate]
  exact if_pos (by show 6 + j - 6 < 256; omega)
section
variable {B G sz : Nat} {W0 w w' : World} {f : Nat → Nat}
theorem GSt.lt (h : GSt B W0 G sz f w) : G < w.heap.size := World.block_lt_of_cell? w _ h.c0
theorem GSt.put (h : GSt B W0 G sz f w) (j v : Nat) (hj : j < 256) : GSt B W0 G sz (fun i => if i = j then v else f i) (w.setCell ⟨G, 6 + j, none⟩ (.int .u8 v)) := by
  have ne : ∀ i : Nat, i < 6 → (w.setCell ⟨G, 6 + j, none⟩ (.int .u8 v)).cell? ⟨G, i, none⟩ = w.cell? ⟨G, i, none⟩ := fun i hi => World.cell?_setCell_other _ _ _ _ (ne_off (by omega))
  refine ⟨h.below.setCell h.lo _, h.lo, (ne 0 (by omega)).trans h.c0, (ne 1 (by omega)).trans h.c1, (ne 2 (by omega)).trans h.c2, (ne 3 (by omega)).trans h.c3, (ne 4 (by omega)).trans h.c4, (ne 5 (by omega)).trans h.c5, fun i hi => ?_, fun i => by rw [World.frozen?_setCell]; exact h.fr i⟩
  by_cases e : i = j
  · subst e
    rw [if_pos rfl]
    exact World.cell?_setCell_same _ _ _ (h.map i hi)
  · rw [if_neg e]
    exact (World.cell?_setCell_other _ _ _ _ (ne_off (by omega))).trans (h.map i hi)
theorem GSt.count (h : GSt B W0 G sz f w) (s' : Nat) : GSt B W0 G s' f (w.setCell ⟨G, 5, none⟩ (.int .i64 s')) := by
  have ne : ∀ i : Nat, i ≠ 5 → (w.setCell ⟨G, 5, none⟩ (.int .i64 s')).cell? ⟨G, i, none⟩ = w.cell? ⟨G, i, none⟩ := fun i hi => World.cell?_setCell_other _ _ _ _ (ne_off (Ne.symm hi))
  exact ⟨h.below.setCell h.lo _, h.lo, (ne 0 (by omega)).trans h.c0, (ne 1 (by omega)).trans h.c1, (ne 2 (by omega)).trans h.c2, (ne 3 (by omega)).trans h.c3, (ne 4 (by omega)).trans h.c4, World.cell?_setCell_same _ _ _ h.c5, fun i hi => (ne _ (by omega)).trans (h.map i hi), fun i => by rw [World.frozen?_setCell]; exact h.fr i⟩
theorem GSt.drewN (h : GSt B W0 G sz f w) (n : Nat) : GSt B W0 G sz f (w.drewN n) := ⟨h.below.trans ⟨rfl, rfl, rfl, Nat.le_refl _, fun _ _ => rfl⟩, h.lo, h.c0, h.c1, h.c2, h.c3, h.c4, h.c5, h.map, h.fr⟩
theorem GSt.ext {g : Nat → Nat} (h : GSt B W0 G sz f w) (e : ∀ j, j < 256 → f j = g j) : GSt B W0 G sz g w := ⟨h.below, h.lo, h.c0, h.c1, h.c2, h.c3, h.c4, h.c5, fun j hj => by rw [h.map j hj, e j hj], h.fr⟩
theorem GSt.cell (h : GSt B W0 G sz f w) (c : UInt8) : w.cell? ⟨G, 6 + c.toNat, none⟩ = some (.int .u8 (f c.toNat)) := h.map _ (chr_lt c)
def mapL (f : Nat → Nat) : List Value := (List.range 256).map fun j => .int .u8 (f j)
theorem mapL_length (f : Nat → Nat) : (mapL f).length = 256 := by simp [mapL]
theorem GSt.range (h : GSt B W0 G sz f w) : w.rangeAt G 6 (mapL f) := by
  intro j v hv
  have hj : j < 256 := by
    have := (List.getElem?_eq_some_iff.1 hv).1
    rwa [mapL_length] at this
  rw [h.map j hj]
  simp [mapL, hj] at hv
  rw [hv]
end
end Go.Proofs.YtiejmkjpgjbodaaGreatDoor

namespace Go.Proofs.YtiejmkjpgjbodaaGreatDoor
open Go.RowKit
set_option linter.unusedVariables false
set_option linter.unusedSimpArgs false
set_option maxRecDepth 100000
def nodeZ : Obj := .cells #[.string ⟨#[]⟩, .int .i64 0, .string ⟨#[]⟩, .pointer none, .slice none 0 0] 256
structure Hung (T m n : Nat) (w w' : World) : Prop where
  size : w.heap.size < w'.heap.size
  mine : w.heap.size ≤ n ∧ n < w'.heap.size
  hit : w'.cell? ⟨T, m, none⟩ = some (.pointer (some ⟨n, 0, none⟩))
  tab : ∀ j : Nat, j ≠ m → w'.cell? ⟨T, j, none⟩ = w.cell? ⟨T, j, none⟩
  cell : ∀ b o : Nat, b ≠ T → b < w.heap.size → w'.cell? ⟨b, o, none⟩ = w.cell? ⟨b, o, none⟩
  fr : ∀ b o : Nat, b < w.heap.size → w'.frozen? ⟨b, o, none⟩ = w.frozen? ⟨b, o, none⟩
  below : ∀ B : Nat, B ≤ T → B ≤ w.heap.size → Below B w w'
theorem Hung.node {T m n b : Nat} {w w' : World} (h : Hung T m n w w') (hT : b ≠ T) (hb : b < w.heap.size) {val pre : ByteArray} {prio : Int} {nx : Option Addr} {tab : Value} (hn : Node w b val prio pre nx tab) : Node w' b val prio pre nx tab := by
  obtain ⟨a0, a1, a2, a3, a4⟩ := hn
  exact ⟨(h.cell b 0 hT hb).trans a0, (h.cell b 1 hT hb).trans a1, (h.cell b 2 hT hb).trans a2, (h.cell b 3 hT hb).trans a3, (h.cell b 4 hT hb).trans a4⟩
theorem z_set (w : World) (p : Addr) (x : Value) : (w.setCell p x).heap.size = w.heap.size := by simp [World.setCell]
theorem z_all (w : World) (o : Obj) : (w.alloc o).heap.size = w.heap.size + 1 := World.size_alloc ..
theorem z_tab (w : World) (T m : Nat) (k : Nat) : ((tabW w T m).drewN k).heap.size = w.heap.size + 1 := by
  show (tabW w T m).heap.size = _
  rw [tabW, z_set, z_all]
theorem new_cell (w : World) (o : Nat) : (w.alloc nodeZ).cell? ⟨w.heap.size, o, none⟩ = (#[Value.string ⟨#[]⟩, .int .i64 0, .string ⟨#[]⟩, .pointer none, .slice none 0 0] : Array Value)[o]? := by
  rw [nodeZ, World.cell?_alloc_at _ _ _ _ rfl]
theorem tab_node (w : World) (T m k : Nat) (hT : T < w.heap.size) (o : Nat) : ((tabW w T m).drewN k).cell? ⟨w.heap.size, o, none⟩ = (#[Value.string ⟨#[]⟩, .int .i64 0, .string ⟨#[]⟩, .pointer none, .slice none 0 0] : Array Value)[o]? := by
  show (tabW w T m).cell? _ = _
  rw [tabW, World.cell?_setCell_other _ _ _ _ (ne_blk (by omega))]
  exact new_cell w o
theorem tab_free (w : World) (T m k : Nat) (o : Nat) : ((tabW w T m).drewN k).frozen? ⟨w.heap.size, o, none⟩ = false := by
  show (tabW w T m).frozen? _ = _
  rw [tabW, World.frozen?_setCell]
  exact World.frozen?_alloc_at _ _ _ _ rfl
theorem tab_hung (w : World) (T m k : Nat) (hT : T < w.heap.size) (ct : w.cell? ⟨T, m, none⟩ = some (.pointer none)) : Hung T m w.heap.size w ((tabW w T m).drewN k) := by
  refine ⟨by rw [z_tab]; omega, ⟨Nat.le_refl _, by rw [z_tab]; omega⟩, ?_, ?_, ?_, ?_, ?_⟩
  · show (tabW w T m).cell? _ = _
    rw [tabW]
    exact World.cell?_setCell_same _ _ _ ((World.cell?_alloc_past _ _ _ hT).trans ct)
  · intro j hj
    show (tabW w T m).cell? _ = _
    rw [tabW, World.cell?_setCell_other _ _ _ _ (ne_off (Ne.symm hj)), World.cell?_alloc_past _ _ _ hT]
  · intro b o hb hl
    show (tabW w T m).cell? _ = _
    rw [tabW, World.cell?_setCell_other _ _ _ _ (ne_blk (Ne.symm hb)), World.cell?_alloc_past _ _ _ hl]
  · intro b o hl
    show (tabW w T m).frozen? _ = _
    rw [tabW, World.frozen?_setCell, World.frozen?_alloc_past _ _ _ hl]
  · intro B hB hw
    exact (((Below.refl B w).alloc hw _).setCell hB _).trans ⟨rfl, rfl, rfl, Nat.le_refl _, fun _ _ => rfl⟩
theorem leaf_hung {T m n : Nat} {w w1 : World} (h : Hung T m n w w1) (b : Nat) (hb : w.heap.size ≤ b) (hT : T < w.heap.size) (val : ByteArray) (p : Int) : Hung T m n w (leafW w1 b val p) := by
  have zz : (leafW w1 b val p).heap.size = w1.heap.size := by rw [leafW, z_set, z_set]
  have oc : ∀ c o : Nat, c < w.heap.size → (leafW w1 b val p).cell? ⟨c, o, none⟩ = w1.cell? ⟨c, o, none⟩ := fun c o hc => by
    rw [leafW, World.cell?_setCell_other _ _ _ _ (ne_blk (by omega)), World.cell?_setCell_other _ _ _ _ (ne_blk (by omega))]
  refine ⟨by rw [zz]; exact h.size, ⟨h.mine.1, by rw [zz]; exact h.mine.2⟩, (oc T m hT).trans h.hit, fun j hj => (oc T j hT).trans (h.tab j hj), fun c o hc hl => (oc c o hl).trans (h.cell c o hc hl), fun c o hl => ?_, fun B hB hw => ?_⟩
  · rw [leafW, World.frozen?_setCell, World.frozen?_setCell]; exact h.fr c o hl
  · exact ((h.below B hB hw).setCell (by show B ≤ b; omega) _).setCell (by show B ≤ b; omega) _
theorem add_one (G T m : Nat) (s val : ByteArray) (p : Int) (w : World) (h1 : s.size = 1) (hT : T < w.heap.size) (m5 : m < 5) (c2 : w.cell? ⟨G, 2, none⟩ = some (.string ⟨#[]⟩)) (c4 : w.cell? ⟨G, 4, none⟩ = some (.slice (some ⟨T, 0, none⟩) 5 5))
    (cm : w.cell? ⟨G, 6 + (s[0]'(by omega)).toNat, none⟩ = some (.int .u8 (m : Int))) (ct : w.cell? ⟨T, m, none⟩ = some (.pointer none)) (ft : w.frozen? ⟨T, m, none⟩ = false) (hGT : G ≠ T) :
    Calls Tryz.prog 243 #[.pointer (some ⟨G, 0, none⟩), .string s, .string val, .int .i64 p, .pointer (some ⟨G, 0, none⟩)] w fun e w' => e = .returned (.tuple #[]) ∧ Hung T m w.heap.size w w' ∧ Node w' w.heap.size val p ⟨#[]⟩ none (.slice none 0 0) := by
  have hx : s.extract 1 s.size = ⟨#[]⟩ := by
    apply ext_list
    rw [h1, extract_none]
  refine (add_root G T m s val p w (fun k => leafW ((tabW w T m).drewN k) w.heap.size val p) hT (by omega) m5 c2 c4 cm ct ft hGT (fun k => ?_)).mono ?_
  · rw [hx]
    exact add_leaf w.heap.size val ⟨#[]⟩ p ⟨G, 0, none⟩ _ (tab_node w T m k hT 0) (tab_node w T m k hT 1) (fun i => tab_free w T m k i)
  · rintro e w' ⟨he, k, rfl⟩
    refine ⟨he, leaf_hung (tab_hung w T m k hT ct) _ (Nat.le_refl _) hT val p, ?_⟩
    have t := tab_node w T m k hT
    refine ⟨?_, ?_, ?_, ?_, ?_⟩
    · rw [leafW, World.cell?_setCell_other _ _ _ _ (ne_off (by decide))]
      exact World.cell?_setCell_same _ _ _ (t 0)
    · rw [leafW]
      exact World.cell?_setCell_same _ _ _ ((World.cell?_setCell_other _ _ _ _ (ne_off (by decide))).trans (t 1))
    · rw [leafW, World.cell?_setCell_other _ _ _ _ (ne_off (by decide)), World.cell?_setCell_other _ _ _ _ (ne_off (by decide))]; exact t 2
    · rw [leafW, World.cell?_setCell_other _ _ _ _ (ne_off (by decide)), World.cell?_setCell_other _ _ _ _ (ne_off (by decide))]; exact t 3
    · rw [leafW, World.cell?_setCell_other _ _ _ _ (ne_off (by decide)), World.cell?_setCell_other _ _ _ _ (ne_off (by decide))]; exact t 4
theorem add_two (G T m : Nat) (s val : ByteArray) (p : Int) (w : World) (h2 : s.size = 2) (hT : T < w.heap.size) (m5 : m < 5) (c2 : w.cell? ⟨G, 2, none⟩ = some (.string ⟨#[]⟩)) (c4 : w.cell? ⟨G, 4, none⟩ = some (.slice (some ⟨T, 0, none⟩) 5 5))
    (cm : w.cell? ⟨G, 6 + (s[0]'(by omega)).toNat, none⟩ = some (.int .u8 (m : Int))) (ct : w.cell? ⟨T, m, none⟩ = some (.pointer none)) (ft : w.frozen? ⟨T, m, none⟩ = false) (hGT : G ≠ T) :
    Calls Tryz.prog 243 #[.pointer (some ⟨G, 0, none⟩), .string s, .string val, .int .i64 p, .pointer (some ⟨G, 0, none⟩)] w fun e w' => e = .returned (.tuple #[]) ∧ Hung T m w.heap.size w w' ∧
      Node w' w.heap.size ⟨#[]⟩ 0 (s.extract 1 s.size) (some ⟨w.heap.size + 1, 0, none⟩) (.slice none 0 0) ∧ Node w' (w.heap.size + 1) val p ⟨#[]⟩ none (.slice none 0 0) ∧ w.heap.size + 1 < w'.heap.size := by
  have hk : (s.extract 1 s.size).toList.isEmpty = false := by
    rw [bytes_list]
    cases e : (s.extract 1 s.size).data.toList with
    | nil =>
      have := congrArg List.length e
      rw [toList_length, ByteArray.size_extract, h2] at this
      exact absurd this (by decide)
    | cons a r => rfl
  refine (add_root G T m s val p w (fun k => leafW (preW ((tabW w T m).drewN k) w.heap.size (s.extract 1 s.size)) (w.heap.size + 1) val p) hT (by omega) m5 c2 c4 cm ct ft hGT (fun k => ?_)).mono ?_
  · have := add_pre w.heap.size (s.extract 1 s.size) val (.pointer none) p ⟨G, 0, none⟩ ((tabW w T m).drewN k) (by rw [z_tab]; omega) hk (tab_node w T m k hT 2) (tab_node w T m k hT 3) (tab_node w T m k hT 4) (fun i => tab_free w T m k i)
    rw [z_tab] at this
    exact this
  · rintro e w' ⟨he, k, rfl⟩
    have h0 := tab_hung w T m k hT ct
    have t := tab_node w T m k hT
    have zk := z_tab w T m k
    generalize (tabW w T m).drewN k = u at h0 t zk
    have ps : ((u.setCell ⟨w.heap.size, 2, none⟩ (.string (s.extract 1 s.size))).setCell ⟨w.heap.size, 3, none⟩ (.pointer (some ⟨u.heap.size, 0, none⟩))).heap.size = u.heap.size := by rw [z_set, z_set]
    have pz : (preW u w.heap.size (s.extract 1 s.size)).heap.size = w.heap.size + 2 := by rw [preW, z_all, ps, zk]
    -- old blocks
    have oc : ∀ c o : Nat, c < w.heap.size → (preW u w.heap.size (s.extract 1 s.size)).cell? ⟨c, o, none⟩ = u.cell? ⟨c, o, none⟩ := fun c o hc => by
      rw [preW, World.cell?_alloc_past _ _ _ (by rw [ps, zk]; exact Nat.lt_succ_of_lt hc), World.cell?_setCell_other _ _ _ _ (ne_blk (by omega)), World.cell?_setCell_other _ _ _ _ (ne_blk (by omega))]
    have h1 : Hung T m w.heap.size w (preW u w.heap.size (s.extract 1 s.size)) := by
      refine ⟨by rw [pz]; omega, ⟨Nat.le_refl _, by rw [pz]; omega⟩, (oc T m hT).trans h0.hit, fun j hj => (oc T j hT).trans (h0.tab j hj), fun c o hc hl => (oc c o hl).trans (h0.cell c o hc hl), fun c o hl => ?_, fun B hB hw => ?_⟩
      · rw [preW, World.frozen?_alloc_past _ _ _ (by rw [ps, zk]; exact Nat.lt_succ_of_lt hl), World.frozen?_setCell, World.frozen?_setCell]; exact h0.fr c o hl
      · exact (((h0.below B hB hw).setCell (by show B ≤ w.heap.size; omega) _).setCell (by show B ≤ w.heap.size; omega) _).alloc (by rw [ps, zk]; omega) _
    -- the first new node
    have n1 : ∀ o : Nat, (preW u w.heap.size (s.extract 1 s.size)).cell? ⟨w.heap.size, o, none⟩ = ((u.setCell ⟨w.heap.size, 2, none⟩ (.string (s.extract 1 s.size))).setCell ⟨w.heap.size, 3, none⟩ (.pointer (some ⟨u.heap.size, 0, none⟩))).cell? ⟨w.heap.size, o, none⟩ := fun o => by
      rw [preW, World.cell?_alloc_past _ _ _ (by rw [ps, zk]; exact Nat.lt_succ_self _)]
    have n2 : ∀ o : Nat, (preW u w.heap.size (s.extract 1 s.size)).cell? ⟨w.heap.size + 1, o, none⟩ = (#[Value.string ⟨#[]⟩, .int .i64 0, .string ⟨#[]⟩, .pointer none, .slice none 0 0] : Array Value)[o]? := fun o => by
      rw [preW, World.cell?_alloc_at _ _ _ _ (by rw [ps, zk])]
    have lf : ∀ o : Nat, (leafW (preW u w.heap.size (s.extract 1 s.size)) (w.heap.size + 1) val p).cell? ⟨w.heap.size, o, none⟩ = (preW u w.heap.size (s.extract 1 s.size)).cell? ⟨w.heap.size, o, none⟩ := fun o => by
      rw [leafW, World.cell?_setCell_other _ _ _ _ (ne_blk (by omega)), World.cell?_setCell_other _ _ _ _ (ne_blk (by omega))]
    refine ⟨he, leaf_hung h1 _ (Nat.le_succ _) hT val p, ⟨?_, ?_, ?_, ?_, ?_⟩, ⟨?_, ?_, ?_, ?_, ?_⟩, ?_⟩
    · rw [lf, n1, World.cell?_setCell_other _ _ _ _ (ne_off (by decide)), World.cell?_setCell_other _ _ _ _ (ne_off (by decide))]; exact t 0
    · rw [lf, n1, World.cell?_setCell_other _ _ _ _ (ne_off (by decide)), World.cell?_setCell_other _ _ _ _ (ne_off (by decide))]; exact t 1
    · rw [lf, n1, World.cell?_setCell_other _ _ _ _ (ne_off (by decide))]; exact World.cell?_setCell_same _ _ _ (t 2)
    · rw [lf, n1, zk]; exact World.cell?_setCell_same _ _ _ ((World.cell?_setCell_other _ _ _ _ (ne_off (by decide))).trans (t 3))
    · rw [lf, n1, World.cell?_setCell_other _ _ _ _ (ne_off (by decide)), World.cell?_setCell_other _ _ _ _ (ne_off (by decide))]; exact t 4
    · rw [leafW, World.cell?_setCell_other _ _ _ _ (ne_off (by decide))]
      exact World.cell?_setCell_same _ _ _ (n2 0)
    · rw [leafW]
      exact World.cell?_setCell_same _ _ _ ((World.cell?_setCell_other _ _ _ _ (ne_off (by decide))).trans (n2 1))
    · rw [leafW, World.cell?_setCell_other _ _ _ _ (ne_off (by decide)), World.cell?_setCell_other _ _ _ _ (ne_off (by decide))]; exact n2 2
    · rw [leafW, World.cell?_setCell_other _ _ _ _ (ne_off (by decide)), World.cell?_setCell_other _ _ _ _ (ne_off (by decide))]; exact n2 3
    · rw [leafW, World.cell?_setCell_other _ _ _ _ (ne_off (by decide)), World.cell?_setCell_other _ _ _ _ (ne_off (by decide))]; exact n2 4
    · rw [leafW, z_set, z_set, pz]; omega
structure TSt (B : Nat) (W0 : World) (G T k : Nat) (w : World) : Prop where
  below : Below B W0 w
  lo : B ≤ G ∧ B ≤ T ∧ G ≠ T ∧ G < w.heap.size ∧ T < w.heap.size ∧ B ≤ w.heap.size
  root : Node w G ⟨#[]⟩ 0 ⟨#[]⟩ none (.slice (some ⟨T, 0, none⟩) 5 5)
  size : w.cell? ⟨G, 5, none⟩ = some (.int .i64 5)
  map : ∀ c : UInt8, w.cell? ⟨G, 6 + c.toNat, none⟩ = some (.int .u8 (mapC c))
  fr : ∀ i : Nat, w.frozen? ⟨T, i, none⟩ = false
  t3 : w.cell? ⟨T, 3, none⟩ = some (.pointer none)
  old : ∀ j, j < 3 → (j < k → ∃ n : Nat, B ≤ n ∧ n < w.heap.size ∧ n ≠ T ∧ w.cell? ⟨T, j, none⟩ = some (.pointer (some ⟨n, 0, none⟩)) ∧ Node w n (valE j) (8 - 2 * j) ⟨#[]⟩ none (.slice none 0 0)) ∧ (k ≤ j → w.cell? ⟨T, j, none⟩ = some (.pointer none))
  t4 : (k ≤ 3 → w.cell? ⟨T, 4, none⟩ = some (.pointer none)) ∧ (3 < k → ∃ n4 n5 : Nat, B ≤ n4 ∧ B ≤ n5 ∧ n4 < w.heap.size ∧ n5 < w.heap.size ∧ w.cell? ⟨T, 4, none⟩ = some (.pointer (some ⟨n4, 0, none⟩)) ∧ Node w n4 ⟨#[]⟩ 0 ⟨#[160]⟩ (some ⟨n5, 0, none⟩) (.slice none 0 0) ∧ Node w n5 (str nbT) 2 ⟨#[]⟩ none (.slice none 0 0))
theorem TSt.one {B G T k : Nat} {W0 w w' : World} (h : TSt B W0 G T k w) (hk : k < 3) (hh : Hung T k w.heap.size w w') (hn : Node w' w.heap.size (valE k) (8 - 2 * k) ⟨#[]⟩ none (.slice none 0 0)) : TSt B W0 G T (k + 1) w' := by
  obtain ⟨l1, l2, l3, l4, l5, l6⟩ := h.lo
  refine ⟨h.below.trans (hh.below B l2 l6), ⟨l1, l2, l3, Nat.lt_trans l4 hh.size, Nat.lt_trans l5 hh.size, Nat.le_trans l6 (Nat.le_of_lt hh.size)⟩, hh.node l3 l4 h.root, (hh.cell G 5 l3 l4).trans h.size, fun c => (hh.cell G _ l3 l4).trans (h.map c), fun i => (hh.fr T i l5).trans (h.fr i), (hh.tab 3 (by omega)).trans h.t3, fun j hj => ⟨fun hjk => ?_, fun hjk => (hh.tab j (by omega)).trans ((h.old j hj).2 (by omega))⟩, fun hk3 => (hh.tab 4 (by omega)).trans (h.t4.1 (by omega)), fun hk3 => absurd hk3 (by omega)⟩
  by_cases e : j = k
  · subst e
    exact ⟨w.heap.size, l6, hh.mine.2, by omega, hh.hit, hn⟩
  · obtain ⟨n, n1, n2, n3, n4, n5⟩ := (h.old j hj).1 (by omega)
    exact ⟨n, n1, Nat.lt_trans n2 hh.size, n3, (hh.tab j e).trans n4, hh.node n3 n2 n5⟩
theorem TSt.last {B G T : Nat} {W0 w w' : World} (h : TSt B W0 G T 3 w) (hh : Hung T 4 w.heap.size w w') (h4 : Node w' w.heap.size ⟨#[]⟩ 0 ⟨#[160]⟩ (some ⟨w.heap.size + 1, 0, none⟩) (.slice none 0 0)) (h5 : Node w' (w.heap.size + 1) (str nbT) 2 ⟨#[]⟩ none (.slice none 0 0)) (hz : w.heap.size + 1 < w'.heap.size) : TSt B W0 G T 4 w' := by
  obtain ⟨l1, l2, l3, l4, l5, l6⟩ := h.lo
  refine ⟨h.below.trans (hh.below B l2 l6), ⟨l1, l2, l3, Nat.lt_trans l4 hh.size, Nat.lt_trans l5 hh.size, Nat.le_trans l6 (Nat.le_of_lt hh.size)⟩, hh.node l3 l4 h.root, (hh.cell G 5 l3 l4).trans h.size, fun c => (hh.cell G _ l3 l4).trans (h.map c), fun i => (hh.fr T i l5).trans (h.fr i), (hh.tab 3 (by omega)).trans h.t3, fun j hj => ⟨fun hjk => ?_, fun hjk => absurd hjk (by omega)⟩, fun hk3 => absurd hk3 (by omega), fun _ => ⟨w.heap.size, w.heap.size + 1, l6, Nat.le_succ_of_le l6, hh.mine.2, hz, hh.hit, h4, h5⟩⟩
  obtain ⟨n, n1, n2, n3, n4, n5⟩ := (h.old j hj).1 (by omega)
  exact ⟨n, n1, Nat.lt_trans n2 hh.size, n3, (hh.tab j (by omega)).trans n4, hh.node n3 n2 n5⟩
def TrieX (B G : Nat) (w : World) : Prop := ∃ T n0 n1 n2 n4 n5 : Nat, Trie w G T n0 n1 n2 n4 n5 ∧ (B ≤ G ∧ B ≤ T ∧ B ≤ n0 ∧ B ≤ n1 ∧ B ≤ n2 ∧ B ≤ n4 ∧ B ≤ n5) ∧ (G < w.heap.size ∧ T < w.heap.size ∧ n0 < w.heap.size ∧ n1 < w.heap.size ∧ n2 < w.heap.size ∧ n4 < w.heap.size ∧ n5 < w.heap.size)
theorem TSt.trie {B G T : Nat} {W0 w : World} (h : TSt B W0 G T 4 w) : TrieX B G w := by
  obtain ⟨l1, l2, l3, l4, l5, l6⟩ := h.lo
  obtain ⟨n0, a1, a2, a3, a4, a5⟩ := (h.old 0 (by omega)).1 (by omega)
  obtain ⟨n1, b1, b2, b3, b4, b5⟩ := (h.old 1 (by omega)).1 (by omega)
  obtain ⟨n2, c1, c2, c3, c4, c5⟩ := (h.old 2 (by omega)).1 (by omega)
  obtain ⟨n4, n5, d1, d2, d3, d4, d5, d6, d7⟩ := h.t4.2 (by omega)
  exact ⟨T, n0, n1, n2, n4, n5, ⟨h.root, h.size, h.map, a4, b4, c4, h.t3, d5, a5, b5, c5, d6, d7⟩, ⟨l1, l2, a1, b1, c1, d1, d2⟩, ⟨l4, l5, a2, b2, c2, d3, d4⟩⟩
theorem TrieX.set {B G b o : Nat} {w : World} (h : TrieX B G w) (hb : b < B) (x : Value) : TrieX B G (w.setCell ⟨b, o, none⟩ x) := by
  obtain ⟨T, n0, n1, n2, n4, n5, ht, ⟨l0, l1, l2, l3, l4, l5, l6⟩, hi⟩ := h
  have key : ∀ (c i : Nat), B ≤ c → (w.setCell ⟨b, o, none⟩ x).cell? ⟨c, i, none⟩ = w.cell? ⟨c, i, none⟩ := fun c i hc => World.cell?_setCell_other _ _ _ _ (ne_blk (by omega))
  have kn : ∀ {c val prio pre nx tab}, B ≤ c → Node w c val prio pre nx tab → Node (w.setCell ⟨b, o, none⟩ x) c val prio pre nx tab := by
    intro c val prio pre nx tab hc ⟨a0, a1, a2, a3, a4⟩
    exact ⟨(key _ _ hc).trans a0, (key _ _ hc).trans a1, (key _ _ hc).trans a2, (key _ _ hc).trans a3, (key _ _ hc).trans a4⟩
  refine ⟨T, n0, n1, n2, n4, n5, ⟨kn l0 ht.root, (key _ _ l0).trans ht.size, fun c => (key _ _ l0).trans (ht.map c), (key _ _ l1).trans ht.t0, (key _ _ l1).trans ht.t1, (key _ _ l1).trans ht.t2, (key _ _ l1).trans ht.t3, (key _ _ l1).trans ht.t4, kn l2 ht.k0, kn l3 ht.k1, kn l4 ht.k2, kn l5 ht.k4, kn l6 ht.k5⟩, ⟨l0, l1, l2, l3, l4, l5, l6⟩, ?_⟩
  rw [z_set]; exact hi
theorem TrieX.drew {B G : Nat} {w : World} (h : TrieX B G w) : TrieX B G w.drew := by
  obtain ⟨T, n0, n1, n2, n4, n5, ht, lo, hi⟩ := h
  exact ⟨T, n0, n1, n2, n4, n5, ⟨ht.1, ht.2, ht.3, ht.4, ht.5, ht.6, ht.7, ht.8, ht.9, ht.10, ht.11, ht.12, ht.13⟩, lo, hi⟩
end Go.Proofs.YtiejmkjpgjbodaaGreatDoor

namespace Go.Proofs.YtiejmkjpgjbodaaGreatDoor
open Go.RowKit
set_option linter.unusedVariables false
set_option linter.unusedSimpArgs false
set_option maxRecDepth 100000
theorem keyE_size (k : Nat) : 1 ≤ (keyE k).size ∧ (keyE k).size ≤ 2 := by
  match k with
  | 0 => decide
  | 1 => decide
  | 2 => decide
  | (k + 3) => exact ⟨Nat.le_succ 1, Nat.le_refl 2⟩
theorem keys_step (k : Nat) (hk : k < 4) : keysTo k ++ (keyE k).data.toList.map UInt8.toNat = keysTo (k + 1) := by
  match k, hk with
  | 0, _ => rfl
  | 1, _ => rfl
  | 2, _ => rfl
  | 3, _ => rfl
theorem inI_snoc (m : List Nat) (c : Nat) (j : Nat) : (if j = c then 1 else inI m j) = inI (m ++ [c]) j := by
  unfold inI
  by_cases h1 : j = c
  · simp [h1]
  · simp [h1, List.mem_append]
def markI (j : Nat) : Nat := inI [38, 60, 62, 194, 160] j
def mixI (k : Nat) (j : Nat) : Nat := if j < k then tabI j else markI j
theorem mix_step (k j : Nat) : (if j = k then tabI k else mixI k j) = mixI (k + 1) j := by
  unfold mixI
  by_cases h : j = k
  · subst h; rw [if_pos rfl, if_pos (Nat.lt_succ_self _)]
  · rw [if_neg h]
    by_cases h2 : j < k
    · rw [if_pos h2, if_pos (by omega)]
    · rw [if_neg h2, if_neg (by omega)]
theorem info_node : (Tryz.prog.info? 253).map (fun i => (i.zero, i.size, i.bytes)) = some (some (.pointer none), 1, 8) := by kernel_rfl
theorem made_five (w : World) : (Instr.makeSlice 254 (.int .i64 5) (.int .i64 5)).run Tryz.prog w = .ok (.slice (some ⟨w.heap.size, 0, none⟩) 5 5) (w.alloc (.cells #[.pointer none, .pointer none, .pointer none, .pointer none, .pointer none] 253)) := by
  obtain ⟨i0, hi, hz0, hz1, hz2⟩ := info_parts info_node
  have h := run_make (P := Tryz.prog) w 254 253 i0 _ Tryz.underlying254 hi hz0 .i64 .i64 5 5 (by omega) (by omega) (by rw [hz2]; omega) (by omega)
  rw [hz1] at h
  rw [h]
  have e : madeCells (Value.pointer none).cells (Int.toNat 5 * 1) = #[.pointer none, .pointer none, .pointer none, .pointer none, .pointer none] := by
    show madeCells #[Value.pointer none] 5 = _
    have e0 : Array.range 0 = (#[] : Array Nat) := by simp [Array.range]
    simp [madeCells, Array.range_succ, e0]
  rw [e]; rfl
theorem GSt.table {B G : Nat} {W0 w : World} {f : Nat → Nat} (h : GSt B W0 G 5 f w) (hB : B ≤ w.heap.size) (hf : ∀ c : UInt8, f c.toNat = mapC c) (t : TypeId) :
    TSt B W0 G w.heap.size 0 ((w.alloc (.cells #[.pointer none, .pointer none, .pointer none, .pointer none, .pointer none] t)).setCell ⟨G, 4, none⟩ (.slice (some ⟨w.heap.size, 0, none⟩) 5 5)) := by
  have hl := h.lt
  have hz := z_all w (.cells #[.pointer none, .pointer none, .pointer none, .pointer none, .pointer none] t)
  have og : ∀ i : Nat, i ≠ 4 → ((w.alloc (.cells #[.pointer none, .pointer none, .pointer none, .pointer none, .pointer none] t)).setCell ⟨G, 4, none⟩ (.slice (some ⟨w.heap.size, 0, none⟩) 5 5)).cell? ⟨G, i, none⟩ = w.cell? ⟨G, i, none⟩ := fun i hi => by
    rw [World.cell?_setCell_other _ _ _ _ (ne_off (Ne.symm hi)), World.cell?_alloc_past _ _ _ hl]
  have ot : ∀ i : Nat, ((w.alloc (.cells #[.pointer none, .pointer none, .pointer none, .pointer none, .pointer none] t)).setCell ⟨G, 4, none⟩ (.slice (some ⟨w.heap.size, 0, none⟩) 5 5)).cell? ⟨w.heap.size, i, none⟩ = (#[Value.pointer none, .pointer none, .pointer none, .pointer none, .pointer none] : Array Value)[i]? := fun i => by
    rw [World.cell?_setCell_other _ _ _ _ (ne_blk (by omega)), World.cell?_alloc_at _ _ _ _ rfl]
  refine ⟨(h.below.alloc hB _).setCell h.lo _, ⟨h.lo, hB, by omega, by rw [z_set, hz]; omega, by rw [z_set, hz]; omega, by rw [z_set, hz]; omega⟩, ⟨(og 0 (by omega)).trans h.c0, (og 1 (by omega)).trans h.c1, (og 2 (by omega)).trans h.c2, (og 3 (by omega)).trans h.c3, World.cell?_setCell_same _ _ _ ((World.cell?_alloc_past _ _ _ hl).trans h.c4)⟩, (og 5 (by omega)).trans h.c5, fun c => ?_, fun i => ?_, ot 3, fun j hj => ⟨fun h0 => absurd h0 (by omega), fun _ => ?_⟩, ⟨fun _ => ot 4, fun h0 => absurd h0 (by omega)⟩⟩
  · rw [og _ (by omega), h.cell c, hf c]
  · rw [World.frozen?_setCell]; exact World.frozen?_alloc_at _ _ _ _ rfl
  · match j, hj with
    | 0, _ => exact ot 0
    | 1, _ => exact ot 1
    | 2, _ => exact ot 2
theorem info_map : (Tryz.prog.info? 228).map (·.size) = some 256 := by kernel_rfl
theorem idx_map (f : Nat → Nat) (k : Nat) (hk : k < 256) (w : World) : (Instr.index 228 (.agg (mapL f).toArray) (.int .i64 (k : Int))).run Tryz.prog w = .ok (.int .u8 (f k)) w := by
  have hi : (0 : Int) ≤ (k : Int) ∧ (k : Int) < ((256 : Nat) : Int) := by omega
  have hc : (mapL f).toArray[k]? = some (.int .u8 (f k)) := by simp [mapL, hk]
  have hs : ∀ w, (sizeOf 5).run Tryz.prog w = .ok 1 w := fun _ => by kernel_rfl
  have ha : ∀ w, (isAgg 5).run Tryz.prog w = .ok false w := fun _ => by kernel_rfl
  have hp : ∀ w, (part 5 (mapL f).toArray k).run Tryz.prog w = .ok (.int .u8 (f k)) w := fun w => by
    simp only [part, Sem.run_bind, ha, Result.andThen_ok, hc]
    rfl
  simp only [Instr.index, asIntOf, Sem.run_bind, Sem.run_pure, Result.andThen_ok, run_underlying Tryz.underlying228, hs, Int.toNat_natCast, Nat.mul_one]
  rw [if_pos hi]
  simp only [Sem.run_bind, hs, Result.andThen_ok, Nat.mul_one]
  exact hp w
theorem add_key (G T k : Nat) (B : Nat) (W0 w : World) (hk : k < 4) (h : TSt B W0 G T k w) (p : Int) (hp : p = 8 - 2 * (k : Int)) :
    Calls Tryz.prog 243 #[.pointer (some ⟨G, 0, none⟩), .string (keyE k), .string (valE k), .int .i64 p, .pointer (some ⟨G, 0, none⟩)] w fun e w' => e = .returned (.tuple #[]) ∧ TSt B W0 G T (k + 1) w' := by
  subst hp
  obtain ⟨l1, l2, l3, l4, l5, l6⟩ := h.lo
  by_cases h3 : k < 3
  · have h1 : (keyE k).size = 1 := by
      match k, h3 with
      | 0, _ => rfl
      | 1, _ => rfl
      | 2, _ => rfl
    have hm : mapC ((keyE k)[0]'(by omega)) = k := by
      match k, h3 with
      | 0, _ => rfl
      | 1, _ => rfl
      | 2, _ => rfl
    refine (add_one G T k (keyE k) (valE k) (8 - 2 * (k : Int)) w h1 l5 (by omega) h.root.2.2.1 h.root.2.2.2.2 (by rw [h.map, hm]) ((h.old k h3).2 (Nat.le_refl _)) (h.fr k) l3).mono ?_
    rintro e w' ⟨he, hh, hn⟩
    exact ⟨he, h.one h3 hh hn⟩
  · obtain rfl : k = 3 := by omega
    refine (add_two G T 4 (keyE 3) (valE 3) (8 - 2 * ((3 : Nat) : Int)) w rfl l5 (by omega) h.root.2.2.1 h.root.2.2.2.2 (by rw [h.map]; rfl) (h.t4.1 (Nat.le_refl _)) (h.fr 4) l3).mono ?_
    rintro e w' ⟨he, hh, h4, h5, hz⟩
    exact ⟨he, h.last hh h4 h5 hz⟩
set_option maxHeartbeats 4000000 in
theorem makeGen_any (g c : Nat) (w : World) (hg : OldNewE g w) :
    Calls Tryz.prog 215 #[.slice (some ⟨g, 0, none⟩) 8 c] w fun e w' => e = .returned (.pointer (some ⟨w.heap.size, 0, none⟩)) ∧ TrieX w.heap.size w.heap.size w' ∧ Below w.heap.size w w' := by
  have hgl : g < w.heap.size := World.block_lt_of_cell? w _ (hg 0 (by omega)).1
  have HG := hide hg
  have HN : Hid (GSt w.heap.size w w.heap.size 0 (inI (keysTo 0)) (w.alloc (.cells Tryz.zeroCells258 258))) := hide ((GSt.new w).ext (fun _ _ => rfl))
  clear hg
  go_enter Tryz.func215, Tryz.ntmps215
  go_wp2_with fail
  go_loopw [4] (fun iv wr => ∃ k n : Nat, k ≤ 4 ∧ n = 2 * k ∧ iv = .int .i64 n ∧ Hid (GSt w.heap.size w w.heap.size 0 (inI (keysTo k)) wr)) (fun iv _ => 8 - (intOf iv).toNat)
  case atStart => exact ⟨0, 0, by omega, rfl, rfl, HN⟩
  case round =>
    obtain ⟨k, n, hk, hn, rfl, HS⟩ := hrel
    by_cases hlt : k < 4
    · have n8 : (n : Int) < 8 := by omega
      have ck : wr.cell? ⟨g, n, none⟩ = some (.string (keyE k)) := by rw [hn]; exact (HS.out.below.cell (p := ⟨g, 2 * k, none⟩) hgl).trans (HG.out k hlt).1
      obtain ⟨K, hK⟩ : ∃ K, K = keyE k := ⟨_, rfl⟩
      rw [← hK] at ck
      have HK := hide hK
      have HKN := hide (And.intro hlt hn)
      have hK2 : K.size ≤ 2 := by rw [hK]; exact (keyE_size k).2
      clear hK hn hlt hk
      go_wp2_with fail
      go_loopw [6] (fun jv wr => ∃ j : Nat, j ≤ K.size ∧ jv = .int .i64 j ∧ Hid (GSt w.heap.size w w.heap.size 0 (inI (keysTo k ++ (K.data.toList.take j).map UInt8.toNat)) wr)) (fun jv _ => K.size - (intOf jv).toNat)
      case atStart => exact ⟨0, Nat.zero_le _, rfl, by simpa using HS⟩
      case round =>
        obtain ⟨j, hj, rfl, HS2⟩ := hrel
        by_cases hjl : j < K.size
        · have b1 : K[j].toNat < 256 := chr_lt _
          have b2 : (K[j].toNat : Int) < 256 := by omega
          have cc := HS2.out.cell K[j]
          have ff := HS2.out.fr (6 + K[j].toNat)
          have HS3 : Hid (∀ q, GSt w.heap.size w w.heap.size 0 (inI (keysTo k ++ (K.data.toList.take (j + 1)).map UInt8.toNat)) ((wr.drewN q).setCell ⟨w.heap.size, 6 + K[j].toNat, none⟩ (.int .u8 1))) := hide fun q => by
            rw [take_snoc K j hjl, List.map_append, ← List.append_assoc]
            exact ((HS2.out.drewN q).put K[j].toNat 1 b1).ext (fun i _ => inI_snoc _ _ i)
          go_wp2_with fail
          go_region
          all_goals
            go_wp2_with fail
            go_roundw
            case rel => exact ⟨j + 1, by omega, by go_num, hide (HS3.out 1)⟩
            case measure => simp [intOf]; omega
        · have hje : j = K.size := by omega
          have HS4 : Hid (GSt w.heap.size w w.heap.size 0 (inI (keysTo (k + 1))) wr) := hide (by
            have := HS2.out
            rw [hje, ← toList_length, List.take_length, HK.out, keys_step k HKN.out.1] at this
            exact this)
          go_wp2_with fail
          go_roundw
          case rel => exact ⟨k + 1, n + 2, by have := HKN.out.1; omega, by have := HKN.out.2; omega, by go_num, HS4⟩
          case measure => simp [intOf]; omega
    · obtain rfl : k = 4 := by omega
      have hn8 : n = 8 := by omega
      subst hn8
      have HS5 := hide HS.out
      have hmk := HS.out.range
      clear hk hlt HS
      go_wp2_with (refine wpList_load_mid rfl _ _ rfl w.heap.size 6 rfl (mapL (inI (keysTo 4))) _ hmk Tryz.underlying228 rfl (by rw [mapL_length]; exact info_map) ?_)
      clear hmk
      go_loopw [41] (fun iv wr => ∃ k : Nat, k ≤ 256 ∧ iv = .int .i64 k ∧ Hid (GSt w.heap.size w w.heap.size (cntI k) (inI (keysTo 4)) wr)) (fun iv _ => 256 - (intOf iv).toNat)
      case atStart => exact ⟨0, by omega, rfl, HS5⟩
      case round =>
        obtain ⟨k, hk, rfl, HS⟩ := hrel
        by_cases hlt : k < 256
        · have hix := idx_map (inI (keysTo 4)) k hlt
          have c5 := HS.out.c5
          have f5 := HS.out.fr 5
          have hi2 := inI_two (keysTo 4) k
          have hcl := cnt_le k (by omega)
          have hst := cnt_step k hlt
          obtain ⟨b, hb⟩ : ∃ b, b = inI (keysTo 4) k := ⟨_, rfl⟩
          obtain ⟨m, hm⟩ : ∃ m, m = cntI k := ⟨_, rfl⟩
          have HN : Hid (GSt w.heap.size w w.heap.size (cntI (k + 1)) (inI (keysTo 4)) (wr.setCell ⟨w.heap.size, 5, none⟩ (.int .i64 ((m + b : Nat) : Int)))) := hide (by
            have e : m + b = cntI (k + 1) := by rw [hb, hm]; exact hst.symm
            rw [e]; exact HS.out.count _)
          rw [← hb] at hix hi2
          rw [← hm] at c5 hcl
          have x1 : IntKind.i64.wrap (b : Int) = b := IntWalk.i64_in _ (by omega)
          have x2 : IntKind.i64.wrap ((m : Int) + (b : Int)) = ((m + b : Nat) : Int) := by rw [IntWalk.i64_in _ (by omega)]; omega
          have k0 : (k : Int) < 256 := by omega
          clear hst hi2 hcl hb hm
          go_wp2_with fail
          go_roundw
          case rel => exact ⟨k + 1, by omega, by go_num, HN⟩
          case measure => simp [intOf]; omega
        · obtain rfl : k = 256 := by omega
          have HS6 : Hid (GSt w.heap.size w w.heap.size 5 (mixI 0) wr) := hide (HS.out.ext (fun j _ => by unfold mixI; rw [if_neg (by omega)]; rfl))
          have hmk : wr.rangeAt w.heap.size 6 (mapL (inI (keysTo 4))) := HS.out.range
          clear hk hlt HS HS5
          go_wp2_with (refine wpList_load_mid rfl _ _ rfl w.heap.size 6 rfl (mapL (inI (keysTo 4))) _ hmk Tryz.underlying228 rfl (by rw [mapL_length]; exact info_map) ?_)
          clear hmk
          go_loopw [9, 58] (fun xv iv wr => ∃ k m : Nat, k ≤ 256 ∧ m = cntI k ∧ iv = .int .i64 k ∧ xv = .int .u8 m ∧ Hid (GSt w.heap.size w w.heap.size 5 (mixI k) wr)) (fun _ iv _ => 256 - (intOf iv).toNat)
          case atStart => exact ⟨0, 0, by omega, rfl, rfl, rfl, HS6⟩
          case round =>
            obtain ⟨k, m, hk, hm, rfl, rfl, HS⟩ := hrel
            by_cases hlt : k < 256
            · have hix := idx_map (inI (keysTo 4)) k hlt
              have c5 : wr.cell? ⟨w.heap.size, 5, none⟩ = some (.int .i64 5) := HS.out.c5
              have c6 := HS.out.map k hlt
              have f6 := HS.out.fr (6 + k)
              have k0 : (k : Int) < 256 := by omega
              rcases inI_two (keysTo 4) k with hb | hb
              · rw [hb] at hix
                have ht : tabI k = 5 := by unfold tabI; rw [if_neg (by rw [show inI [38, 60, 62, 194, 160] k = 0 from hb]; decide)]
                have hm2 : m = cntI (k + 1) := by rw [cnt_step k hlt, show inI [38, 60, 62, 194, 160] k = 0 from hb]; exact hm
                have HN : Hid (∀ q, GSt w.heap.size w w.heap.size 5 (mixI (k + 1)) ((wr.drewN q).setCell ⟨w.heap.size, 6 + k, none⟩ (.int .u8 5))) := hide fun q => by
                  have := (HS.out.drewN q).put k 5 hlt
                  exact this.ext (fun j _ => by rw [← ht]; exact mix_step k j)
                clear hb ht hm
                go_wp2_with fail
                go_region
                all_goals
                  go_wp2_with fail
                  go_roundw
                  case rel => exact ⟨k + 1, m, by omega, hm2, by go_num, rfl, hide (HN.out 1)⟩
                  case measure => simp [intOf]; omega
              · rw [hb] at hix
                have ht : tabI k = m := by unfold tabI; rw [if_pos (show inI [38, 60, 62, 194, 160] k = 1 from hb)]; exact hm.symm
                have hm2 : m + 1 = cntI (k + 1) := by rw [cnt_step k hlt, show inI [38, 60, 62, 194, 160] k = 1 from hb, ← hm]
                have hml : m ≤ 5 := by rw [hm]; exact cnt_le k (by omega)
                have x1 : IntKind.u8.wrap ((m : Int) + 1) = ((m + 1 : Nat) : Int) := by rw [IntWalk.u8_in _ (by omega)]; omega
                have HN : Hid (GSt w.heap.size w w.heap.size 5 (mixI (k + 1)) (wr.setCell ⟨w.heap.size, 6 + k, none⟩ (.int .u8 m))) := hide (by
                  have := HS.out.put k m hlt
                  exact this.ext (fun j _ => by rw [← ht]; exact mix_step k j))
                clear hb ht hm hml
                go_wp2_with fail
                go_roundw
                case rel => exact ⟨k + 1, m + 1, by omega, hm2, by go_num, by go_num, HN⟩
                case measure => simp [intOf]; omega
            · obtain rfl : k = 256 := by omega
              have c5 : wr.cell? ⟨w.heap.size, 5, none⟩ = some (.int .i64 5) := HS.out.c5
              have c4 := HS.out.c4
              have f4 := HS.out.fr 4
              have hGl := HS.out.lt
              have hmf := made_five
              have HT0 := hide (HS.out.table HS.out.below.size (fun c => by unfold mixI; rw [if_pos (chr_lt c)]; exact tab_map c) 253)
              clear hk hlt HS HS6 hm
              go_wp2_with fail
              obtain ⟨T, hT⟩ : ∃ T, T = wr.heap.size := ⟨_, rfl⟩
              rw [← hT] at HT0
              have HTT := hide hT
              have HGL := hide hGl
              clear hmf c5 c4 f4 hGl hT
              go_loopw [12] (fun iv wr => ∃ k n : Nat, k ≤ 4 ∧ n = 2 * k ∧ iv = .int .i64 n ∧ Hid (TSt w.heap.size w w.heap.size T k wr)) (fun iv _ => 8 - (intOf iv).toNat)
              case atStart => exact ⟨0, 0, by omega, rfl, rfl, hide (by rw [← World.setCell_alloc_past _ _ _ _ HGL.out, ← HTT.out]; exact HT0.out)⟩
              case round =>
                obtain ⟨k, n, hk, hn, rfl, HS⟩ := hrel
                by_cases hlt : k < 4
                · have n8 : (n : Int) < 8 := by omega
                  have n7 : (n : Int) + 1 < 8 := by omega
                  have n6 : (0 : Int) ≤ (n : Int) + 1 := by omega
                  have x1 : IntKind.i64.wrap ((n : Int) + 1) = (n : Int) + 1 := IntWalk.i64_in _ (by omega)
                  have x2 : ((n : Int) + 1).toNat = n + 1 := by omega
                  have x3 : IntKind.i64.wrap (8 - (n : Int)) = 8 - (n : Int) := IntWalk.i64_in _ (by omega)
                  have ck : wr.cell? ⟨g, n, none⟩ = some (.string (keyE k)) := by rw [hn]; exact (HS.out.below.cell (p := ⟨g, 2 * k, none⟩) hgl).trans (HG.out k hlt).1
                  have cv : wr.cell? ⟨g, n + 1, none⟩ = some (.string (valE k)) := by rw [hn]; exact (HS.out.below.cell (p := ⟨g, 2 * k + 1, none⟩) hgl).trans (HG.out k hlt).2
                  obtain ⟨K, hK⟩ : ∃ K, K = keyE k := ⟨_, rfl⟩
                  obtain ⟨V, hV⟩ : ∃ V, V = valE k := ⟨_, rfl⟩
                  rw [← hK] at ck
                  rw [← hV] at cv
                  have HAD := hide (fun q => by
                    have := add_key w.heap.size T k w.heap.size w (wr.drewN q) hlt ⟨HS.out.1.trans ⟨rfl, rfl, rfl, Nat.le_refl _, fun _ _ => rfl⟩, HS.out.2, HS.out.3, HS.out.4, HS.out.5, HS.out.6, HS.out.7, HS.out.8, HS.out.9⟩ (8 - (n : Int)) (by rw [hn]; omega)
                    rw [← hK, ← hV] at this
                    exact this)
                  have HKN := hide (And.intro hlt hn)
                  clear hK hV hlt hn hk HS
                  go_wp2_with fail
                  go_still_tail 17, (by kernel_rfl)
                  change wpList _ _ _ _ _ wr.drew
                  go_wp2_with (go_at_call 243; refine (HAD.out 1).mono ?_; rintro e w5 ⟨rfl, hs5⟩; have HS5 := hide hs5; clear hs5)
                  refine ⟨⟨_, _, _, _, _, _, _, _, _, _, _, _, _, _, _, _, _, _, _, _, _, _, _, _, _, ?_, rfl⟩, ?_⟩
                  · exact ⟨k + 1, n + 2, by have := HKN.out.1; omega, by have := HKN.out.2; omega, by go_num, HS5⟩
                  · simp [intOf]; omega
                · obtain rfl : k = 4 := by omega
                  obtain rfl : n = 8 := by omega
                  clear hk hlt hn
                  go_wp2_with fail
                  go_ret
                  exact ⟨rfl, HS.out.trie, HS.out.below⟩
end Go.Proofs.YtiejmkjpgjbodaaGreatDoor

