/- WALK of slices.Backward at []api.Node: what it hands back yields the row from its end. No statement is proved here. Own work of the verifier. -/
import Derived.Test.YtjaeheicndfdnaaDoorFoldU
import Derived.RangeFuncNested
import Derived.RangeFuncBound
import Derived.RangeFuncCalls
import Derived.RangeFuncLeaves
import Derived.RangeFuncBox
import Derived.Shelf.Abstract
import Derived.Shelf.RegionOpen
import Derived.OwnWalkIn
import Derived.TacticsInMore
import Derived.LoopNIn
import Derived.LoopIn
namespace Go.Proofs.YtjaeheicndfdnaaDoor
open Go.RowKit Go.Shelf
set_option linter.unusedVariables false
set_option linter.unusedSimpArgs false
set_option maxRecDepth 100000
attribute [local go_sem] Oper.semAt_some
abbrev IdxN := Nat × KidV
def zeroK : KidV := ((⟨[], [], []⟩, .nil), (.slice none 0 0, .slice none 0 0))
/-- the row from its end on -/
def backN (D : List KidV) : Nat → List IdxN
  | 0 => []
  | k + 1 => (k, D.getD k zeroK) :: backN D k
def ndF (q : KidV) : Value := .agg #[.string (str q.1.1.name), q.2.1, .string (str q.1.1.text), q.2.2]
abbrev encsN (x : IdxN) : Array Value := #[.int .i64 x.1, .agg #[.string (str x.2.1.1.name), x.2.2.1, .string (str x.2.1.1.text), x.2.2.2]]
/-- the row that is read, and the box that it lies in, stay -/
def RowKept (g Bn : Nat) (A B : World) : Prop := B.heap[g]? = A.heap[g]? ∧ B.heap[Bn]? = A.heap[Bn]?
theorem RowKept.refl (g Bn : Nat) (A : World) : RowKept g Bn A A := ⟨rfl, rfl⟩
theorem RowKept.trans {g Bn : Nat} {A B C : World} (h : RowKept g Bn A B) (k : RowKept g Bn B C) : RowKept g Bn A C := ⟨k.1.trans h.1, k.2.trans h.2⟩
def NodesHere (a : Addr) (D : List KidV) (W : World) : Prop := ∀ (j : Nat) u, (nodeVals D)[j]? = some u → W.cell? (a.add j) = some u
theorem NodesHere.kept {a : Addr} {Bn : Nat} {D : List KidV} {A B : World} (h : NodesHere a D A) (k : RowKept a.block Bn A B) : NodesHere a D B := fun j u hj =>
  (World.cell?_of_block (show B.heap[(a.add j).block]? = A.heap[(a.add j).block]? by rw [addr_add_block]; exact k.1)).trans (h j u hj)
theorem NodesHere.four {a : Addr} {D : List KidV} {W : World} (h : NodesHere a D W) {m : Nat} {q : KidV} (hq : D[m]? = some q) :
    W.cell? (a.add (m * 4)) = some (.string (str q.1.1.name)) ∧ W.cell? { block := (a.add (m * 4)).block, off := (a.add (m * 4)).off + 1 } = some q.2.1 ∧ W.cell? { block := (a.add (m * 4)).block, off := (a.add (m * 4)).off + 2 } = some (.string (str q.1.1.text)) ∧ W.cell? { block := (a.add (m * 4)).block, off := (a.add (m * 4)).off + 3 } = some q.2.2 := by
  have hlt := (List.getElem?_eq_some_iff.1 hq).1
  obtain ⟨pre, post, e, hl⟩ : ∃ pre post, D = pre ++ q :: post ∧ pre.length = m := by
    refine ⟨D.take m, D.drop (m + 1), ?_, by rw [List.length_take]; omega⟩
    have := List.take_append_drop m D
    rw [List.drop_eq_getElem_cons hlt] at this
    rw [List.getElem?_eq_getElem hlt] at hq
    rw [← Option.some.inj hq]; exact this.symm
  have hg : ∀ j, j < 4 → (nodeVals D)[m * 4 + j]? = [Value.string (str q.1.1.name), q.2.1, .string (str q.1.1.text), q.2.2][j]? := fun j hj => by
    rw [e, ← hl, nodeVals_append, List.getElem?_append_right (by rw [nodeVals_length]; omega), nodeVals_length, show pre.length * 4 + j - pre.length * 4 = j by omega]
    have e2 : nodeVals (q :: post) = [Value.string (str q.1.1.name), q.2.1, .string (str q.1.1.text), q.2.2] ++ nodeVals post := rfl
    rw [e2, List.getElem?_append_left (by simpa using hj)]
  have e1 : ({ block := (a.add (m * 4)).block, off := (a.add (m * 4)).off + 1 } : Addr) = a.add (m * 4 + 1) := by rw [← Addr.add_add]; rfl
  have e2 : ({ block := (a.add (m * 4)).block, off := (a.add (m * 4)).off + 2 } : Addr) = a.add (m * 4 + 2) := by rw [← Addr.add_add]; rfl
  have e3 : ({ block := (a.add (m * 4)).block, off := (a.add (m * 4)).off + 3 } : Addr) = a.add (m * 4 + 3) := by rw [← Addr.add_add]; rfl
  exact ⟨h _ _ (hg 0 (by decide)), by rw [e1]; exact h _ _ (hg 1 (by decide)), by rw [e2]; exact h _ _ (hg 2 (by decide)), by rw [e3]; exact h _ _ (hg 3 (by decide))⟩
set_option maxHeartbeats 2000000 in
theorem back1_in (n : Nat) (hn : 2 ≤ n) (l Bn cap : Nat) (a : Addr) (A : Option Addr) (D : List KidV) (hD : D.length ≤ 1048576) (hA : D ≠ [] → A = some a) (J Jx : List IdxN → World → Prop)
    (hY : ∀ pre x W, x.2 ∈ D → J pre W → pre.length < D.length → YieldAt Fence.wide (n - 1) Tryd.prog l (encsN x) W fun e W' =>
      (e = .returned (.bool true) ∧ J (pre ++ [x]) W' ∧ RowKept a.block Bn W W') ∨ (e = .returned (.bool false) ∧ Jx (pre ++ [x]) W'))
    (W : World) (hBn : W.cell? ⟨Bn, 0, none⟩ = some (.slice A D.length cap)) (hc : NodesHere a D W) (h0 : J [] W) :
    CallsIn Fence.wide n Tryd.prog 29 #[.func (.yield l) #[] #[], .pointer (some ⟨Bn, 0, none⟩)] W fun e W' => (∃ v, e = .returned v) ∧
      ((∃ ys, ys = backN D D.length ∧ J ys W') ∨ (∃ pre, pre <+: backN D D.length ∧ Jx pre W')) := by
  refine callsIn_of_wp Tryd.func29 rfl trivial ?_ rfl
  simp only [Tryd.ntmps29, List.size_toArray, List.length_cons, List.length_nil, Nat.reduceAdd, Nat.reduceSub, Array.replicate_succ, Array.replicate_zero, List.push_toArray, List.append_toArray, List.nil_append, List.cons_append]
  obtain ⟨N, hN⟩ : ∃ N, N = D.length := ⟨_, rfl⟩
  rw [← hN] at hBn hD hY
  have HN := hide hN
  have HC := hide hc
  have HY := hide hY
  have HA := hide hA
  have HBN := hide hBn
  have HJ0 := hide h0
  clear hN hc hY hA h0
  gi_wp2
  gi_loopw [3] (fun i wr => ∃ pre : List IdxN, Hid (J pre wr) ∧ Hid (RowKept a.block Bn W wr) ∧ ((i = .int .i64 (-1) ∧ Hid (pre = backN D N)) ∨ ∃ m : Nat, m < N ∧ i = .int .i64 m ∧ Hid (pre ++ backN D (m + 1) = backN D N) ∧ Hid (pre.length + (m + 1) = N)))
    (fun i _ => (intOf i + 1).toNat)
  case atStart =>
    refine ⟨[], HJ0, hide (RowKept.refl _ _ _), ?_⟩
    rcases Nat.eq_zero_or_pos N with h | h
    · exact .inl ⟨by rw [h]; rfl, hide (by rw [h]; rfl)⟩
    · refine .inr ⟨N - 1, by omega, congrArg (Value.int .i64) (by omega), hide (by rw [show N - 1 + 1 = N by omega]; rfl), hide (by simp; omega)⟩
  case round =>
    obtain ⟨pre, HJ, HK, ⟨rfl, HP⟩ | ⟨m, hm, rfl, HP, HL⟩⟩ := hrel
    · gi_wp2
      go_end0
      exact ⟨⟨_, rfl⟩, .inl ⟨pre, by rw [HP.out, HN.out], HJ.out⟩⟩
    · have hmD : m < D.length := by rw [← HN.out]; exact hm
      obtain ⟨d, hd⟩ : ∃ d, D[m]? = some d := ⟨_, List.getElem?_eq_getElem hmD⟩
      obtain ⟨c0, c1, c2, c3⟩ := (HC.out.kept HK.out).four hd
      have hA : A = some a := HA.out (by rintro rfl; simp at hmD)
      have hbn : wr.cell? ⟨Bn, 0, none⟩ = some (.slice A N cap) := (World.cell?_of_block HK.out.2).trans HBN.out
      rw [hA] at hbn
      have hgd : D.getD m zeroK = d := by rw [List.getD_eq_getElem?_getD, hd]; rfl
      have HP2 : Hid ((pre ++ [(m, d)]) ++ backN D m = backN D N) := hide (by
        have := HP.out
        rw [backN, hgd] at this
        rw [← this]; simp)
      have hdm : (m, d).2 ∈ D := List.mem_of_getElem? hd
      have HR := hide (fun W => HY.out pre (m, d) W hdm)
      have HLT : Hid (pre.length < N) := hide (by have := HL.out; omega)
      have hi1 : m * 4 ≤ 4194304 := by omega
      clear hmD hd hgd hA hdm
      obtain ⟨fn, tmps, assign, body, hy, hRd⟩ := HR.out wr HJ.out HLT.out
      dsimp only [encsN] at hy
      gi_wp2
      refine ⟨fun _ => (by omega), hRd.mono ?_⟩
      rintro e W3 (⟨rfl, hJ3, hk3⟩ | ⟨rfl, hJx3⟩)
      · gi_wp2
        go_roundw
        case rel =>
          refine ⟨pre ++ [(m, d)], hJ3, hide (HK.out.trans hk3), ?_⟩
          rcases Nat.eq_zero_or_pos m with h | h
          · subst h
            exact .inl ⟨rfl, hide (by have := HP2.out; simpa [backN] using this)⟩
          · obtain ⟨q, rfl⟩ : ∃ q, m = q + 1 := ⟨m - 1, by omega⟩
            exact .inr ⟨q, by omega, congrArg (Value.int .i64) (by omega), HP2, hide (by have := HL.out; simp; omega)⟩
        case measure => first | (simp [intOf]; done) | (simp [intOf]; omega)
      · gi_wp2
        refine bodyPost_ret (results_none rfl _ _ _) rfl ?_
        exact ⟨⟨_, rfl⟩, .inr ⟨pre ++ [(m, d)], by rw [← HN.out]; exact ⟨_, HP2.out⟩, hJx3⟩⟩
set_option maxHeartbeats 1000000 in
theorem back_in (n : Nat) (hn : 1 ≤ n) (A : Option Addr) (k cap : Nat) (w : World) :
    CallsIn Fence.wide n Tryd.prog 20 #[.slice A k cap] w fun e w' => e = .returned (.func (.func 29) #[] #[.pointer (some ⟨w.heap.size, 0, none⟩)]) ∧ w' = w.alloc (.cells #[.slice A k cap] 22) := by
  refine callsIn_of_wp Tryd.func20 rfl trivial ?_ rfl
  simp only [Tryd.ntmps20, List.size_toArray, List.length_cons, List.length_nil, Nat.reduceAdd, Nat.reduceSub, Array.replicate_succ, Array.replicate_zero, List.push_toArray, List.append_toArray, List.nil_append, List.cons_append]
  gi_wp2
  go_ret
  exact ⟨rfl, rfl⟩
/-- a node of the row, with its number -/
abbrev BackP (D : List KidV) := { x : IdxN // x.2 ∈ D }
abbrev encsB (D : List KidV) (x : BackP D) : Array Value := encsN x.1
theorem back_stops (n : Nat) (hn : 2 ≤ n) (Bn cap : Nat) (a : Addr) (A : Option Addr) (D : List KidV) (hD : D.length ≤ 1048576) (hA : D ≠ [] → A = some a) (w : World) (hBn : Bn < w.heap.size) (hg : a.block < w.heap.size)
    (hc : w.cell? ⟨Bn, 0, none⟩ = some (.slice A D.length cap)) (hd : NodesHere a D w) :
    SeqStopsK Fence.wide n Tryd.prog 29 #[.pointer (some ⟨Bn, 0, none⟩)] (encsB D) (RowKept a.block Bn) (fun ys => ys.map (·.1) = backN D D.length) (fun pre => pre.map (·.1) <+: backN D D.length) D.length w := fun l J Jx W hW hJ hJx hY h0 => by
  refine (back1_in n hn l Bn cap a A D hD hA (fun pre W => ∃ q : List (BackP D), q.map (·.1) = pre ∧ J q W) (fun pre W => ∃ q : List (BackP D), q.map (·.1) = pre ∧ Jx q W) ?_ W ((hW.cell (p := ⟨Bn, 0, none⟩) hBn).trans hc) (fun j u hj => (hW.cell (p := a.add j) (by rw [addr_add_block]; exact hg)).trans (hd j u hj)) ⟨[], rfl, h0⟩).mono ?_
  · rintro pre x W hx ⟨q, rfl, hj⟩ hl
    refine (hY q ⟨x, hx⟩ W hj (by simpa using hl)).mono ?_
    rintro e W' (⟨rfl, h2, h3⟩ | ⟨rfl, h2⟩)
    · exact .inl ⟨rfl, ⟨_, by simp, h2⟩, h3⟩
    · exact .inr ⟨rfl, ⟨_, by simp, h2⟩⟩
  · rintro e W' ⟨hv, (⟨ys, rfl, q, hq, hj⟩ | ⟨pre, hp, q, rfl, hj⟩)⟩
    · exact ⟨hv, .inl ⟨q, hq, hj⟩⟩
    · exact ⟨hv, .inr ⟨q, hp, hj⟩⟩
end Go.Proofs.YtjaeheicndfdnaaDoor
