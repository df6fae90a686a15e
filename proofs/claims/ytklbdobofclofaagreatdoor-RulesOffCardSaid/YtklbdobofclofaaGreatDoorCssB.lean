/- WALK of slices.Backward at [][2]string: what it hands back yields the row from its end. No statement is proved here. Own work of the verifier. -/
import Derived.Test.YtklbdobofclofaaGreatDoorCssC
import Derived.RangeFuncNested
import Derived.RangeFuncBound
import Derived.RangeFuncCalls
import Derived.RangeFuncLeaves
import Derived.RangeFuncBox
import Derived.Shelf.Abstract
import Derived.Shelf.RegionOpen
import Derived.OwnWalkIn
import Derived.TacticsInMore
import Derived.LoopNIn
import Derived.LoopIn
namespace Go.Proofs.YtklbdobofclofaaGreatDoor
open Go.RowKit Go.Shelf
set_option linter.unusedVariables false
set_option linter.unusedSimpArgs false
set_option maxRecDepth 100000
attribute [local go_sem] Oper.semAt_some

abbrev IdxL := Nat × DeclL
/-- the row from its end on -/
def backN (D : List DeclL) : Nat → List IdxL
  | 0 => []
  | k + 1 => (k, D.getD k ([], [])) :: backN D k
abbrev encsD (x : IdxL) : Array Value := #[.int .i64 x.1, .agg #[.string (str x.2.1), .string (str x.2.2)]]
/-- the row that is read, and the box that it lies in, stay -/
def RowKept (g Bn : Nat) (A B : World) : Prop := (∀ o, B.cell? ⟨g, o, none⟩ = A.cell? ⟨g, o, none⟩) ∧ B.cell? ⟨Bn, 0, none⟩ = A.cell? ⟨Bn, 0, none⟩
theorem RowKept.refl (g Bn : Nat) (A : World) : RowKept g Bn A A := ⟨fun _ => rfl, rfl⟩
theorem RowKept.trans {g Bn : Nat} {A B C : World} (h : RowKept g Bn A B) (k : RowKept g Bn B C) : RowKept g Bn A C := ⟨fun o => (k.1 o).trans (h.1 o), k.2.trans h.2⟩
def DeclsAt (g : Nat) (D : List DeclL) (W : World) : Prop := ∀ j (h : j < D.length), W.cell? ⟨g, j * 2, none⟩ = some (.string (str D[j].1)) ∧ W.cell? ⟨g, j * 2 + 1, none⟩ = some (.string (str D[j].2))
theorem DeclsAt.kept {g Bn : Nat} {D : List DeclL} {A B : World} (h : DeclsAt g D A) (k : RowKept g Bn A B) : DeclsAt g D B := fun j hj => ⟨(k.1 _).trans (h j hj).1, (k.1 _).trans (h j hj).2⟩
set_option maxHeartbeats 2000000 in
theorem back1_in (n : Nat) (hn : 2 ≤ n) (l Bn g cap : Nat) (A : Option Addr) (D : List DeclL) (hD : D.length ≤ 1048576) (hA : D ≠ [] → A = some ⟨g, 0, none⟩) (J Jx : List IdxL → World → Prop)
    (hY : ∀ pre x W, x.2 ∈ D → J pre W → pre.length < D.length → YieldAt Fence.wide (n - 1) Tryz.prog l (encsD x) W fun e W' =>
      (e = .returned (.bool true) ∧ J (pre ++ [x]) W' ∧ RowKept g Bn W W') ∨ (e = .returned (.bool false) ∧ Jx (pre ++ [x]) W'))
    (W : World) (hBn : W.cell? ⟨Bn, 0, none⟩ = some (.slice A D.length cap)) (hc : DeclsAt g D W) (h0 : J [] W) :
    CallsIn Fence.wide n Tryz.prog 96 #[.func (.yield l) #[] #[], .pointer (some ⟨Bn, 0, none⟩)] W fun e W' => (∃ v, e = .returned v) ∧
      ((∃ ys, ys = backN D D.length ∧ J ys W') ∨ (∃ pre, pre <+: backN D D.length ∧ Jx pre W')) := by
  refine callsIn_of_wp Tryz.func96 rfl trivial ?_ rfl
  simp only [Tryz.ntmps96, List.size_toArray, List.length_cons, List.length_nil, Nat.reduceAdd, Nat.reduceSub, Array.replicate_succ, Array.replicate_zero, List.push_toArray, List.append_toArray, List.nil_append, List.cons_append]
  obtain ⟨N, hN⟩ : ∃ N, N = D.length := ⟨_, rfl⟩
  rw [← hN] at hBn hD hY
  have HN := hide hN
  have HC := hide hc
  have HY := hide hY
  have HA := hide hA
  have HBN := hide hBn
  have HJ0 := hide h0
  clear hN hc hY hA h0
  gi_wp2
  gi_loopw [3] (fun i wr => ∃ pre : List IdxL, Hid (J pre wr) ∧ Hid (RowKept g Bn W wr) ∧ ((i = .int .i64 (-1) ∧ Hid (pre = backN D N)) ∨ ∃ m : Nat, m < N ∧ i = .int .i64 m ∧ Hid (pre ++ backN D (m + 1) = backN D N) ∧ Hid (pre.length + (m + 1) = N)))
    (fun i _ => (intOf i + 1).toNat)
  case atStart =>
    refine ⟨[], HJ0, hide (RowKept.refl _ _ _), ?_⟩
    rcases Nat.eq_zero_or_pos N with h | h
    · exact .inl ⟨by rw [h]; rfl, hide (by rw [h]; rfl)⟩
    · refine .inr ⟨N - 1, by omega, congrArg (Value.int .i64) (by omega), hide (by rw [show N - 1 + 1 = N by omega]; rfl), hide (by simp; omega)⟩
  case round =>
    obtain ⟨pre, HJ, HK, ⟨rfl, HP⟩ | ⟨m, hm, rfl, HP, HL⟩⟩ := hrel
    · gi_wp2
      go_end0
      exact ⟨⟨_, rfl⟩, .inl ⟨pre, by rw [HP.out, HN.out], HJ.out⟩⟩
    · have hmD : m < D.length := by rw [← HN.out]; exact hm
      obtain ⟨d, hd⟩ : ∃ d, D[m] = d := ⟨_, rfl⟩
      have hcells := (HC.out.kept HK.out) m hmD
      rw [hd] at hcells
      obtain ⟨c0, c1⟩ := hcells
      have hA : A = some ⟨g, 0, none⟩ := HA.out (by rintro rfl; simp at hmD)
      have hbn := HK.out.2.trans HBN.out
      rw [hA] at hbn
      have hgd : D.getD m ([], []) = d := by rw [List.getD_eq_getElem?_getD, List.getElem?_eq_getElem hmD, hd]; rfl
      have HP2 : Hid ((pre ++ [(m, d)]) ++ backN D m = backN D N) := hide (by
        have := HP.out
        rw [backN, hgd] at this
        rw [← this]; simp)
      have hdm : (m, d).2 ∈ D := by rw [← hd]; exact List.getElem_mem hmD
      have HR := hide (fun W => HY.out pre (m, d) W hdm)
      have HLT : Hid (pre.length < N) := hide (by have := HL.out; omega)
      have hi1 : m * 2 ≤ 2097152 := by omega
      clear hmD hd hgd hA hdm
      obtain ⟨fn, tmps, assign, body, hy, hRd⟩ := HR.out wr HJ.out HLT.out
      dsimp only [encsD] at hy
      gi_wp2
      refine ⟨fun _ => (by omega), hRd.mono ?_⟩
      rintro e W3 (⟨rfl, hJ3, hk3⟩ | ⟨rfl, hJx3⟩)
      · gi_wp2
        go_roundw
        case rel =>
          refine ⟨pre ++ [(m, d)], hJ3, hide (HK.out.trans hk3), ?_⟩
          rcases Nat.eq_zero_or_pos m with h | h
          · subst h
            exact .inl ⟨rfl, hide (by have := HP2.out; simpa [backN] using this)⟩
          · obtain ⟨q, rfl⟩ : ∃ q, m = q + 1 := ⟨m - 1, by omega⟩
            exact .inr ⟨q, by omega, congrArg (Value.int .i64) (by omega), HP2, hide (by have := HL.out; simp; omega)⟩
        case measure => first | (simp [intOf]; done) | (simp [intOf]; omega)
      · gi_wp2
        refine bodyPost_ret (results_none rfl _ _ _) rfl ?_
        exact ⟨⟨_, rfl⟩, .inr ⟨pre ++ [(m, d)], by rw [← HN.out]; exact ⟨_, HP2.out⟩, hJx3⟩⟩
set_option maxHeartbeats 1000000 in
theorem back_in (n : Nat) (hn : 1 ≤ n) (A : Option Addr) (k cap : Nat) (w : World) :
    CallsIn Fence.wide n Tryz.prog 75 #[.slice A k cap] w fun e w' => e = .returned (.func (.func 96) #[] #[.pointer (some ⟨w.heap.size, 0, none⟩)]) ∧ w' = w.alloc (.cells #[.slice A k cap] 53) := by
  refine callsIn_of_wp Tryz.func75 rfl trivial ?_ rfl
  simp only [Tryz.ntmps75, List.size_toArray, List.length_cons, List.length_nil, Nat.reduceAdd, Nat.reduceSub, Array.replicate_succ, Array.replicate_zero, List.push_toArray, List.append_toArray, List.nil_append, List.cons_append]
  gi_wp2
  go_ret
  exact ⟨rfl, rfl⟩
/-- a declaration of the row, with its number -/
abbrev BackP (D : List DeclL) := { x : IdxL // x.2 ∈ D }
abbrev encsB (D : List DeclL) (x : BackP D) : Array Value := encsD x.1
theorem back_stops (n : Nat) (hn : 2 ≤ n) (Bn g cap : Nat) (A : Option Addr) (D : List DeclL) (hD : D.length ≤ 1048576) (hA : D ≠ [] → A = some ⟨g, 0, none⟩) (w : World) (hBn : Bn < w.heap.size) (hg : g < w.heap.size)
    (hc : w.cell? ⟨Bn, 0, none⟩ = some (.slice A D.length cap)) (hd : DeclsAt g D w) :
    SeqStopsK Fence.wide n Tryz.prog 96 #[.pointer (some ⟨Bn, 0, none⟩)] (encsB D) (RowKept g Bn) (fun ys => ys.map (·.1) = backN D D.length) (fun pre => pre.map (·.1) <+: backN D D.length) D.length w := fun l J Jx W hW hJ hJx hY h0 => by
  refine (back1_in n hn l Bn g cap A D hD hA (fun pre W => ∃ q : List (BackP D), q.map (·.1) = pre ∧ J q W) (fun pre W => ∃ q : List (BackP D), q.map (·.1) = pre ∧ Jx q W) ?_ W ((hW.cell (p := ⟨Bn, 0, none⟩) hBn).trans hc) (fun j hj => ⟨(hW.cell (p := ⟨g, j * 2, none⟩) hg).trans (hd j hj).1, (hW.cell (p := ⟨g, j * 2 + 1, none⟩) hg).trans (hd j hj).2⟩) ⟨[], rfl, h0⟩).mono ?_
  · rintro pre x W hx ⟨q, rfl, hj⟩ hl
    refine (hY q ⟨x, hx⟩ W hj (by simpa using hl)).mono ?_
    rintro e W' (⟨rfl, h2, h3⟩ | ⟨rfl, h2⟩)
    · exact .inl ⟨rfl, ⟨_, by simp, h2⟩, h3⟩
    · exact .inr ⟨rfl, ⟨_, by simp, h2⟩⟩
  · rintro e W' ⟨hv, (⟨ys, rfl, q, hq, hj⟩ | ⟨pre, hp, q, rfl, hj⟩)⟩
    · exact ⟨hv, .inl ⟨q, hq, hj⟩⟩
    · exact ⟨hv, .inr ⟨q, hp, hj⟩⟩
end Go.Proofs.YtklbdobofclofaaGreatDoor
