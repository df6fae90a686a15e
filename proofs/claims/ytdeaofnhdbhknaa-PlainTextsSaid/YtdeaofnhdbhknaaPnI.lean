/- WALK of a page's place and write, and of a line's String. No statement is proved here. Own work of the verifier. -/
import Derived.Test.YtdeaofnhdbhknaaPnH
import Derived.Test.YtdeaofnhdbhknaaPnR
import Derived.Test.YtdeaofnhdbhknaaCut
import Derived.Test.YtdeaofnhdbhknaaSzL
import Derived.Deep.RegionLaw
import Derived.Lib.Repeat
namespace Go.Proofs.Ytdeaofnhdbhknaa
open Go.RowKit
set_option linter.unusedVariables false
set_option linter.unusedSimpArgs false
set_option maxRecDepth 100000
theorem LnRow.form {B : Nat} {v : Value} {l : List LnL} {w : World} (h : LnRow B v l w) : ∃ A c, v = .slice A l.length c := (LnRow.in h).form
theorem ByRow.form {B : Nat} {v : Value} {l : List UInt8} {w : World} (h : ByRow B v l w) : ∃ A c, v = .slice A l.length c := by
  rcases h.2 with ⟨rfl, h0⟩ | ⟨g, cap, cur, rfl, _⟩
  · rw [h0]; exact ⟨_, _, rfl⟩
  · exact ⟨_, _, rfl⟩
theorem ByRow.convert {B : Nat} {v : Value} {l : List UInt8} {w : World} (h : ByRow B v l w) : (convert 72 9 v).run Try.prog w = .ok (.string (str l)) w := by
  have hb : Buf 0 v l w w := ⟨⟨h.1, by
    rcases h.2 with h2 | ⟨g, cap, cur, h1, h2, h3⟩
    · exact .inl h2
    · exact .inr ⟨g, cap, cur, h1, Nat.zero_le _, h3⟩⟩, Below.refl _ _, Nat.zero_le _⟩
  exact hb.convert
def placeV (p : Nat × Nat) : Value := .agg #[.int .i64 (p.1 : Int), .int .i64 (p.2 : Int)]
set_option maxHeartbeats 1000000 in
theorem place_any (B g j : Nat) (p : PgL) (ev lv : Value) (w : World) (h : PgW B g j p ev lv w) :
    Calls Try.prog 41 #[.pointer (some ⟨g, j, none⟩)] w fun e w' => e = .returned (placeV (place p)) ∧ Below w.heap.size w w' := by
  obtain ⟨Ae, ce, rfl⟩ := h.ln.form
  obtain ⟨Al, cl, rfl⟩ := h.bt.form
  have hk : ∀ ob, PgW B g j p (.slice Ae p.1.length ce) (.slice Al p.2.length cl) (w.alloc ob).drew := fun ob => h.kept ((below_one w ob).drew)
  have c0 : ∀ ob, (w.alloc ob).drew.cell? ⟨g, j, none⟩ = some (.slice Ae p.1.length ce) := fun ob => (hk ob).cells.1
  have c1 : ∀ ob, (w.alloc ob).drew.cell? ⟨g, j + 1, none⟩ = some (.slice Al p.2.length cl) := fun ob => (hk ob).cells.2.1
  clear hk
  go_enter Try.func41, Try.ntmps41
  go_wp2_with fail
  go_region
  all_goals
    go_wp2_with fail
    refine bodyPost_ret (results_cell_row rfl _ _ w.heap.size _ _ _ _ rfl (show (w.alloc _).drew.heap[w.heap.size]? = _ from heap_alloc_new w _) Try.underlying76 rfl (by kernel_rfl)) rfl ?_
    exact ⟨rfl, (below_one w _).drew⟩
theorem signs_repeat (n : Nat) : Lib.repeatL [62, 32] n = signs n := by
  induction n with
  | zero => rfl
  | succ n ih => rw [signs_succ, ← ih]; rfl
set_option maxHeartbeats 1000000 in
theorem lineStr_any (x : LnL) (w : World) (hn : x.1 ≤ 4000000000000) (hl : x.2.length ≤ 4000000000000) :
    Calls Try.prog 44 #[lnV x] w fun e w' => e = .returned (.string (str (lineS x))) ∧ Below w.heap.size w w' := by
  have hb1 := below_one w (Obj.cells #[.int .i64 (x.1 : Int), .string (str x.2)] 42)
  have hx1 : (w.alloc (Obj.cells #[.int .i64 (x.1 : Int), .string (str x.2)] 42)).heap[w.heap.size]? = some (Obj.cells #[.int .i64 (x.1 : Int), .string (str x.2)] 42 (0, 0)) := heap_alloc_new w _
  have c0 : (w.alloc (Obj.cells #[.int .i64 (x.1 : Int), .string (str x.2)] 42)).drew.cell? ⟨w.heap.size, 0, none⟩ = some (.int .i64 (x.1 : Int)) := (Lib.cell_of_heap hx1 0).trans rfl
  have HX := hide hx1
  have HB := hide hb1
  have HC : Hid (Calls Try.prog 52 #[.string ⟨#[62, 32]⟩, .int .i64 (x.1 : Int)] (w.alloc (Obj.cells #[.int .i64 (x.1 : Int), .string (str x.2)] 42)).drew fun e w' => e = .returned (.string (str (signs x.1))) ∧ Below (w.heap.size + 1) (w.alloc (Obj.cells #[.int .i64 (x.1 : Int), .string (str x.2)] 42)).drew w') := hide (by
    refine (Try.strings_Repeat ⟨#[62, 32]⟩ x.1 _ (by omega) (by show 2 * x.1 ≤ _; omega)).mono ?_
    rintro e w' ⟨rfl, hb⟩
    refine ⟨?_, ?_⟩
    · rw [← signs_repeat]; rfl
    · have : (w.alloc (Obj.cells #[.int .i64 (x.1 : Int), .string (str x.2)] 42)).drew.heap.size = w.heap.size + 1 := World.size_alloc ..
      rw [this] at hb; exact hb)
  have HE : Hid (str (lineS x) = str (signs x.1) ++ str x.2) := hide (by unfold lineS; rw [str_append])
  obtain ⟨X, hX⟩ : ∃ X, X = str x.2 := ⟨_, rfl⟩
  obtain ⟨Y, hY⟩ : ∃ Y, Y = str (signs x.1) := ⟨_, rfl⟩
  have hXs : X.size ≤ 4000000000000 := by rw [hX, str_size]; exact hl
  have hYs : Y.size ≤ 8000000000000 := by rw [hY, str_size, signs_len]; omega
  have hsum : ¬ (9223372036854775807 < Y.size + X.size) := by omega
  clear hXs hYs
  have HXX := hide hX
  unfold lnV
  rw [← hX] at HX HB HC HE c0 ⊢
  rw [← hY] at HC HE
  clear hb1 hx1 hX hY
  go_enter Try.func44, Try.ntmps44
  go_wp2_with fail
  go_region_law (go_simp; (with_reducible refine HC.out.mono ?_); rintro e w2 ⟨rfl, hb2⟩; have c1 : w2.cell? ⟨w.heap.size, 1, none⟩ = some (.string X) := (hb2.cell (p := ⟨w.heap.size, 1, none⟩) (by show w.heap.size < _; omega)).trans ((Lib.cell_of_heap HX.out 1).trans rfl); have HB2 := hide hb2; clear hb2)
  all_goals
    go_wp2_with fail
    go_ret
    exact ⟨by rw [HE.out]; rfl, bl_two HB.out (by rw [World.size_alloc]; exact ⟨HB2.out.os, HB2.out.tape, HB2.out.output, HB2.out.size, HB2.out.block⟩)⟩
end Go.Proofs.Ytdeaofnhdbhknaa
