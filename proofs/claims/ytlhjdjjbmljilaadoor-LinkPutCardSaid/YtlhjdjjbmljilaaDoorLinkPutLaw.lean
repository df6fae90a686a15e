/- WALK of the law LinkPut. No statement is proved here. Own work of the verifier. -/
import Derived.Test.YtlhjdjjbmljilaaDoorLinkL0
import Derived.Test.YtlhjdjjbmljilaaDoorRef16C
import Derived.Test.YtlhjdjjbmljilaaDoorLinkK
import Derived.BigQuiet
import Derived.Deep.DeepCutAuto
import Derived.Deep.CutBlock
import Derived.BigRegion
import Derived.Deep.QuietTactic
namespace Go.Proofs.YtlhjdjjbmljilaaDoor
open Go.RowKit
set_option linter.unusedVariables false
set_option linter.unusedSimpArgs false
set_option maxRecDepth 100000
theorem convG (W : World) (b : Nat) (x : Int) (h : W.cell? ⟨b, 0, none⟩ = some (.int .u8 x)) : (convert 28 9 (.slice (some ⟨b, 0, none⟩) 1 1)).run Tryd.prog W = .ok (.string (strOfNums [x])) W :=
  run_convert_bytes_arg (P := Tryd.prog) _ 28 5 Tryd.underlying28 Tryd.underlying5 b 0 1 1 [x] rfl (fun i hi => by
    obtain rfl : i = 0 := by omega
    exact h) 9 Tryd.underlying9
theorem lower_cell (w : World) (o : Obj) (b : Nat) (h : b < w.heap.size) : (w.alloc o).cell? ⟨b, 0, none⟩ = w.cell? ⟨b, 0, none⟩ := ((Below.refl w.heap.size w).alloc (Nat.le_refl _) o).cell (p := ⟨b, 0, none⟩) h
theorem put0 (w : World) (v : Value) : (w.alloc (.cells #[v] 5)).cell? ⟨w.heap.size, 0, none⟩ = some v := by rw [World.cell?_alloc_at _ _ _ _ rfl]; rfl
theorem put1 (w : World) (v : Value) (o1 : Obj) : ((w.alloc (.cells #[v] 5)).alloc o1).cell? ⟨w.heap.size, 0, none⟩ = some v := by rw [lower_cell _ _ _ (by simp), put0]
theorem put2 (w : World) (v : Value) (o1 o2 : Obj) : (((w.alloc (.cells #[v] 5)).alloc o1).alloc o2).cell? ⟨w.heap.size, 0, none⟩ = some v := by rw [lower_cell _ _ _ (by simp; omega), put1]
theorem put3 (w : World) (v : Value) (o1 : Obj) : ((w.alloc o1).alloc (.cells #[v] 5)).cell? ⟨w.heap.size + 1, 0, none⟩ = some v := by
  have := put0 (w.alloc o1) v
  rwa [World.size_alloc] at this
theorem put4 (w : World) (v : Value) (o1 o2 : Obj) : (((w.alloc o1).alloc (.cells #[v] 5)).alloc o2).cell? ⟨w.heap.size + 1, 0, none⟩ = some v := by rw [lower_cell _ _ _ (by simp), put3]
theorem put5 (w : World) (v : Value) (o1 o2 : Obj) : (((w.alloc o1).alloc o2).alloc (.cells #[v] 5)).cell? ⟨w.heap.size + 1 + 1, 0, none⟩ = some v := by
  have := put0 ((w.alloc o1).alloc o2) v
  rwa [World.size_alloc, World.size_alloc] at this
set_option maxHeartbeats 4000000 in
theorem law0_LinkPut (s : ByteArray) (hss : s.size ≤ maxLen) (z x y : Int) (hz1 : -9223372036854775808 ≤ z) (hz2 : z ≤ 9223372036854775807) (hx0 : 0 ≤ x) (hx1 : x ≤ 255) (hy0 : 0 ≤ y) (hy1 : y ≤ 255) (w : World) (hE : EnvU w) :
    Calls Tryd.prog 4 #[.agg #[.string s, .int .i64 z, .int .u8 x, .int .u8 y]] w fun e w' => e = .returned (.bool true) ∧ Below w.heap.size w w' := by
  have HE := hide hE
  clear hE
  rcases Nat.lt_or_ge 3000 s.size with hq | hs
  · have HDs : Hid (decide (s.size ≤ 3000) = false) := decide_eq_false (by omega)
    go_enter Tryd.func4, Tryd.ntmps4
    go_wp2_with fail
    have c0 : (w.alloc (.cells #[.string s, .int .i64 z, .int .u8 x, .int .u8 y] 27)).cell? ⟨w.heap.size, 0, none⟩ = some (.string s) := by rw [World.cell?_alloc_at _ _ _ _ rfl]; rfl
    have c1 : (w.alloc (.cells #[.string s, .int .i64 z, .int .u8 x, .int .u8 y] 27)).cell? ⟨w.heap.size, 1, none⟩ = some (.int .i64 z) := by rw [World.cell?_alloc_at _ _ _ _ rfl]; rfl
    have c2 : (w.alloc (.cells #[.string s, .int .i64 z, .int .u8 x, .int .u8 y] 27)).cell? ⟨w.heap.size, 2, none⟩ = some (.int .u8 x) := by rw [World.cell?_alloc_at _ _ _ _ rfl]; rfl
    have c3 : (w.alloc (.cells #[.string s, .int .i64 z, .int .u8 x, .int .u8 y] 27)).cell? ⟨w.heap.size, 3, none⟩ = some (.int .u8 y) := by rw [World.cell?_alloc_at _ _ _ _ rfl]; rfl
    obtain ⟨w0, hw0⟩ : ∃ w0, w.alloc (.cells #[.string s, .int .i64 z, .int .u8 x, .int .u8 y] 27) = w0 := ⟨_, rfl⟩
    have hb0 : Below w.heap.size w w0 := by rw [← hw0]; exact (Below.refl _ w).alloc (Nat.le_refl _) _
    rw [hw0] at c0 c1 c2 c3 ⊢
    clear hw0
    go_quiet (fail)
    have hbq : Below w0.heap.size w0 (w0.drewN nq) := ⟨rfl, rfl, rfl, Nat.le_refl _, fun _ _ => rfl⟩
    have HB := hide (hb0.trans (hbq.mono hb0.size))
    have HE0 := hide (HE.out.kept HB.out)
    obtain ⟨w1, hw1⟩ : ∃ w1, w0.drewN nq = w1 := ⟨_, rfl⟩
    rw [hw1] at HB HE0 ⊢
    clear hw1 hbq hb0 c0 c1 c2 c3
    go_wp2_with fail
    refine (short16_any s _ hss).mono ?_
    rintro e w1_ ⟨rfl, rfl⟩
    rw [HDs.out]
    go_wp2_with fail
    refine (live16_any _ HE0.out).mono ?_
    rintro e w2 ⟨rfl, hb2⟩
    go_wp2_with fail
    go_ret
    exact ⟨rfl, HB.out.trans (hb2.mono HB.out.size)⟩
  have HDs : Hid (decide (s.size ≤ 3000) = true) := decide_eq_true hs
  by_cases hz : z < 0
  · have t0 : decide (z < 0) = true := decide_eq_true hz
    go_enter Tryd.func4, Tryd.ntmps4
    go_wp2_with fail
    have c0 : (w.alloc (.cells #[.string s, .int .i64 z, .int .u8 x, .int .u8 y] 27)).cell? ⟨w.heap.size, 0, none⟩ = some (.string s) := by rw [World.cell?_alloc_at _ _ _ _ rfl]; rfl
    have c1 : (w.alloc (.cells #[.string s, .int .i64 z, .int .u8 x, .int .u8 y] 27)).cell? ⟨w.heap.size, 1, none⟩ = some (.int .i64 z) := by rw [World.cell?_alloc_at _ _ _ _ rfl]; rfl
    have c2 : (w.alloc (.cells #[.string s, .int .i64 z, .int .u8 x, .int .u8 y] 27)).cell? ⟨w.heap.size, 2, none⟩ = some (.int .u8 x) := by rw [World.cell?_alloc_at _ _ _ _ rfl]; rfl
    have c3 : (w.alloc (.cells #[.string s, .int .i64 z, .int .u8 x, .int .u8 y] 27)).cell? ⟨w.heap.size, 3, none⟩ = some (.int .u8 y) := by rw [World.cell?_alloc_at _ _ _ _ rfl]; rfl
    obtain ⟨w0, hw0⟩ : ∃ w0, w.alloc (.cells #[.string s, .int .i64 z, .int .u8 x, .int .u8 y] 27) = w0 := ⟨_, rfl⟩
    have hb0 : Below w.heap.size w w0 := by rw [← hw0]; exact (Below.refl _ w).alloc (Nat.le_refl _) _
    rw [hw0] at c0 c1 c2 c3 ⊢
    clear hw0
    go_quiet (fail)
    have hbq : Below w0.heap.size w0 (w0.drewN nq) := ⟨rfl, rfl, rfl, Nat.le_refl _, fun _ _ => rfl⟩
    have HB := hide (hb0.trans (hbq.mono hb0.size))
    have HE0 := hide (HE.out.kept HB.out)
    obtain ⟨w1, hw1⟩ : ∃ w1, w0.drewN nq = w1 := ⟨_, rfl⟩
    rw [hw1] at HB HE0 ⊢
    clear hw1 hbq hb0 c0 c1 c2 c3
    go_wp2_with fail
    refine (short16_any s _ hss).mono ?_
    rintro e w1_ ⟨rfl, rfl⟩
    rw [HDs.out]
    go_wp2_with fail
    refine (live16_any _ HE0.out).mono ?_
    rintro e w2 ⟨rfl, hb2⟩
    go_wp2_with fail
    go_ret
    exact ⟨rfl, HB.out.trans (hb2.mono HB.out.size)⟩
  have t0 : decide (z < 0) = false := decide_eq_false hz
  by_cases hzs : (s.size : Int) < z
  · have t1 : decide ((s.size : Int) < z) = true := decide_eq_true hzs
    go_enter Tryd.func4, Tryd.ntmps4
    go_wp2_with fail
    have c0 : (w.alloc (.cells #[.string s, .int .i64 z, .int .u8 x, .int .u8 y] 27)).cell? ⟨w.heap.size, 0, none⟩ = some (.string s) := by rw [World.cell?_alloc_at _ _ _ _ rfl]; rfl
    have c1 : (w.alloc (.cells #[.string s, .int .i64 z, .int .u8 x, .int .u8 y] 27)).cell? ⟨w.heap.size, 1, none⟩ = some (.int .i64 z) := by rw [World.cell?_alloc_at _ _ _ _ rfl]; rfl
    have c2 : (w.alloc (.cells #[.string s, .int .i64 z, .int .u8 x, .int .u8 y] 27)).cell? ⟨w.heap.size, 2, none⟩ = some (.int .u8 x) := by rw [World.cell?_alloc_at _ _ _ _ rfl]; rfl
    have c3 : (w.alloc (.cells #[.string s, .int .i64 z, .int .u8 x, .int .u8 y] 27)).cell? ⟨w.heap.size, 3, none⟩ = some (.int .u8 y) := by rw [World.cell?_alloc_at _ _ _ _ rfl]; rfl
    obtain ⟨w0, hw0⟩ : ∃ w0, w.alloc (.cells #[.string s, .int .i64 z, .int .u8 x, .int .u8 y] 27) = w0 := ⟨_, rfl⟩
    have hb0 : Below w.heap.size w w0 := by rw [← hw0]; exact (Below.refl _ w).alloc (Nat.le_refl _) _
    rw [hw0] at c0 c1 c2 c3 ⊢
    clear hw0
    go_quiet (fail)
    have hbq : Below w0.heap.size w0 (w0.drewN nq) := ⟨rfl, rfl, rfl, Nat.le_refl _, fun _ _ => rfl⟩
    have HB := hide (hb0.trans (hbq.mono hb0.size))
    have HE0 := hide (HE.out.kept HB.out)
    obtain ⟨w1, hw1⟩ : ∃ w1, w0.drewN nq = w1 := ⟨_, rfl⟩
    rw [hw1] at HB HE0 ⊢
    clear hw1 hbq hb0 c0 c1 c2 c3
    go_wp2_with fail
    refine (short16_any s _ hss).mono ?_
    rintro e w1_ ⟨rfl, rfl⟩
    rw [HDs.out]
    go_wp2_with fail
    refine (live16_any _ HE0.out).mono ?_
    rintro e w2 ⟨rfl, hb2⟩
    go_wp2_with fail
    go_ret
    exact ⟨rfl, HB.out.trans (hb2.mono HB.out.size)⟩
  have t1 : decide ((s.size : Int) < z) = false := decide_eq_false hzs
  by_cases hx : x = 9 ∨ x = 10 ∨ x = 13
  · by_cases hy : 32 < y
    · have t2 : decide (32 < y) = true := decide_eq_true hy
      rcases hx with hx | hx | hx
      · have n9 : (x == 9) = true := by rw [hx]; rfl
        have m9 : (x != 9) = false := by rw [bne, n9]; rfl
        clear hx
        go_enter Tryd.func4, Tryd.ntmps4
        go_wp2_with fail
        have c0 : (w.alloc (.cells #[.string s, .int .i64 z, .int .u8 x, .int .u8 y] 27)).cell? ⟨w.heap.size, 0, none⟩ = some (.string s) := by rw [World.cell?_alloc_at _ _ _ _ rfl]; rfl
        have c1 : (w.alloc (.cells #[.string s, .int .i64 z, .int .u8 x, .int .u8 y] 27)).cell? ⟨w.heap.size, 1, none⟩ = some (.int .i64 z) := by rw [World.cell?_alloc_at _ _ _ _ rfl]; rfl
        have c2 : (w.alloc (.cells #[.string s, .int .i64 z, .int .u8 x, .int .u8 y] 27)).cell? ⟨w.heap.size, 2, none⟩ = some (.int .u8 x) := by rw [World.cell?_alloc_at _ _ _ _ rfl]; rfl
        have c3 : (w.alloc (.cells #[.string s, .int .i64 z, .int .u8 x, .int .u8 y] 27)).cell? ⟨w.heap.size, 3, none⟩ = some (.int .u8 y) := by rw [World.cell?_alloc_at _ _ _ _ rfl]; rfl
        obtain ⟨w0, hw0⟩ : ∃ w0, w.alloc (.cells #[.string s, .int .i64 z, .int .u8 x, .int .u8 y] 27) = w0 := ⟨_, rfl⟩
        have hb0 : Below w.heap.size w w0 := by rw [← hw0]; exact (Below.refl _ w).alloc (Nat.le_refl _) _
        rw [hw0] at c0 c1 c2 c3 ⊢
        clear hw0
        go_quiet (fail)
        have hbq : Below w0.heap.size w0 (w0.drewN nq) := ⟨rfl, rfl, rfl, Nat.le_refl _, fun _ _ => rfl⟩
        have HB := hide (hb0.trans (hbq.mono hb0.size))
        have HE0 := hide (HE.out.kept HB.out)
        obtain ⟨w1, hw1⟩ : ∃ w1, w0.drewN nq = w1 := ⟨_, rfl⟩
        rw [hw1] at HB HE0 ⊢
        clear hw1 hbq hb0 c0 c1 c2 c3
        go_wp2_with fail
        refine (short16_any s _ hss).mono ?_
        rintro e w1_ ⟨rfl, rfl⟩
        rw [HDs.out]
        go_wp2_with fail
        refine (live16_any _ HE0.out).mono ?_
        rintro e w2 ⟨rfl, hb2⟩
        go_wp2_with fail
        go_ret
        exact ⟨rfl, HB.out.trans (hb2.mono HB.out.size)⟩
      · have n9 : (x == 9) = false := by rw [hx]; rfl
        have m9 : (x != 9) = true := by rw [bne, n9]; rfl
        have n10 : (x == 10) = true := by rw [hx]; rfl
        have m10 : (x != 10) = false := by rw [bne, n10]; rfl
        clear hx
        go_enter Tryd.func4, Tryd.ntmps4
        go_wp2_with fail
        have c0 : (w.alloc (.cells #[.string s, .int .i64 z, .int .u8 x, .int .u8 y] 27)).cell? ⟨w.heap.size, 0, none⟩ = some (.string s) := by rw [World.cell?_alloc_at _ _ _ _ rfl]; rfl
        have c1 : (w.alloc (.cells #[.string s, .int .i64 z, .int .u8 x, .int .u8 y] 27)).cell? ⟨w.heap.size, 1, none⟩ = some (.int .i64 z) := by rw [World.cell?_alloc_at _ _ _ _ rfl]; rfl
        have c2 : (w.alloc (.cells #[.string s, .int .i64 z, .int .u8 x, .int .u8 y] 27)).cell? ⟨w.heap.size, 2, none⟩ = some (.int .u8 x) := by rw [World.cell?_alloc_at _ _ _ _ rfl]; rfl
        have c3 : (w.alloc (.cells #[.string s, .int .i64 z, .int .u8 x, .int .u8 y] 27)).cell? ⟨w.heap.size, 3, none⟩ = some (.int .u8 y) := by rw [World.cell?_alloc_at _ _ _ _ rfl]; rfl
        obtain ⟨w0, hw0⟩ : ∃ w0, w.alloc (.cells #[.string s, .int .i64 z, .int .u8 x, .int .u8 y] 27) = w0 := ⟨_, rfl⟩
        have hb0 : Below w.heap.size w w0 := by rw [← hw0]; exact (Below.refl _ w).alloc (Nat.le_refl _) _
        rw [hw0] at c0 c1 c2 c3 ⊢
        clear hw0
        go_quiet (fail)
        have hbq : Below w0.heap.size w0 (w0.drewN nq) := ⟨rfl, rfl, rfl, Nat.le_refl _, fun _ _ => rfl⟩
        have HB := hide (hb0.trans (hbq.mono hb0.size))
        have HE0 := hide (HE.out.kept HB.out)
        obtain ⟨w1, hw1⟩ : ∃ w1, w0.drewN nq = w1 := ⟨_, rfl⟩
        rw [hw1] at HB HE0 ⊢
        clear hw1 hbq hb0 c0 c1 c2 c3
        go_wp2_with fail
        refine (short16_any s _ hss).mono ?_
        rintro e w1_ ⟨rfl, rfl⟩
        rw [HDs.out]
        go_wp2_with fail
        refine (live16_any _ HE0.out).mono ?_
        rintro e w2 ⟨rfl, hb2⟩
        go_wp2_with fail
        go_ret
        exact ⟨rfl, HB.out.trans (hb2.mono HB.out.size)⟩
      · have n9 : (x == 9) = false := by rw [hx]; rfl
        have m9 : (x != 9) = true := by rw [bne, n9]; rfl
        have n10 : (x == 10) = false := by rw [hx]; rfl
        have m10 : (x != 10) = true := by rw [bne, n10]; rfl
        have n13 : (x == 13) = true := by rw [hx]; rfl
        have m13 : (x != 13) = false := by rw [bne, n13]; rfl
        clear hx
        go_enter Tryd.func4, Tryd.ntmps4
        go_wp2_with fail
        have c0 : (w.alloc (.cells #[.string s, .int .i64 z, .int .u8 x, .int .u8 y] 27)).cell? ⟨w.heap.size, 0, none⟩ = some (.string s) := by rw [World.cell?_alloc_at _ _ _ _ rfl]; rfl
        have c1 : (w.alloc (.cells #[.string s, .int .i64 z, .int .u8 x, .int .u8 y] 27)).cell? ⟨w.heap.size, 1, none⟩ = some (.int .i64 z) := by rw [World.cell?_alloc_at _ _ _ _ rfl]; rfl
        have c2 : (w.alloc (.cells #[.string s, .int .i64 z, .int .u8 x, .int .u8 y] 27)).cell? ⟨w.heap.size, 2, none⟩ = some (.int .u8 x) := by rw [World.cell?_alloc_at _ _ _ _ rfl]; rfl
        have c3 : (w.alloc (.cells #[.string s, .int .i64 z, .int .u8 x, .int .u8 y] 27)).cell? ⟨w.heap.size, 3, none⟩ = some (.int .u8 y) := by rw [World.cell?_alloc_at _ _ _ _ rfl]; rfl
        obtain ⟨w0, hw0⟩ : ∃ w0, w.alloc (.cells #[.string s, .int .i64 z, .int .u8 x, .int .u8 y] 27) = w0 := ⟨_, rfl⟩
        have hb0 : Below w.heap.size w w0 := by rw [← hw0]; exact (Below.refl _ w).alloc (Nat.le_refl _) _
        rw [hw0] at c0 c1 c2 c3 ⊢
        clear hw0
        go_quiet (fail)
        have hbq : Below w0.heap.size w0 (w0.drewN nq) := ⟨rfl, rfl, rfl, Nat.le_refl _, fun _ _ => rfl⟩
        have HB := hide (hb0.trans (hbq.mono hb0.size))
        have HE0 := hide (HE.out.kept HB.out)
        obtain ⟨w1, hw1⟩ : ∃ w1, w0.drewN nq = w1 := ⟨_, rfl⟩
        rw [hw1] at HB HE0 ⊢
        clear hw1 hbq hb0 c0 c1 c2 c3
        go_wp2_with fail
        refine (short16_any s _ hss).mono ?_
        rintro e w1_ ⟨rfl, rfl⟩
        rw [HDs.out]
        go_wp2_with fail
        refine (live16_any _ HE0.out).mono ?_
        rintro e w2 ⟨rfl, hb2⟩
        go_wp2_with fail
        go_ret
        exact ⟨rfl, HB.out.trans (hb2.mono HB.out.size)⟩
    · have t2 : decide (32 < y) = false := decide_eq_false hy
      have hzn : 0 ≤ z := by omega
      have hzm : z ≤ s.size := by omega
      clear hz hzs hy
      go_enter Tryd.func4, Tryd.ntmps4
      go_wp2_with fail
      have c0 : (w.alloc (.cells #[.string s, .int .i64 z, .int .u8 x, .int .u8 y] 27)).cell? ⟨w.heap.size, 0, none⟩ = some (.string s) := by rw [World.cell?_alloc_at _ _ _ _ rfl]; rfl
      have c1 : (w.alloc (.cells #[.string s, .int .i64 z, .int .u8 x, .int .u8 y] 27)).cell? ⟨w.heap.size, 1, none⟩ = some (.int .i64 z) := by rw [World.cell?_alloc_at _ _ _ _ rfl]; rfl
      have c2 : (w.alloc (.cells #[.string s, .int .i64 z, .int .u8 x, .int .u8 y] 27)).cell? ⟨w.heap.size, 2, none⟩ = some (.int .u8 x) := by rw [World.cell?_alloc_at _ _ _ _ rfl]; rfl
      have c3 : (w.alloc (.cells #[.string s, .int .i64 z, .int .u8 x, .int .u8 y] 27)).cell? ⟨w.heap.size, 3, none⟩ = some (.int .u8 y) := by rw [World.cell?_alloc_at _ _ _ _ rfl]; rfl
      obtain ⟨w0, hw0⟩ : ∃ w0, w.alloc (.cells #[.string s, .int .i64 z, .int .u8 x, .int .u8 y] 27) = w0 := ⟨_, rfl⟩
      have hb0 : Below w.heap.size w w0 := by rw [← hw0]; exact (Below.refl _ w).alloc (Nat.le_refl _) _
      rw [hw0] at c0 c1 c2 c3 ⊢
      clear hw0
      go_quiet (fail)
      have hbq : Below w0.heap.size w0 (w0.drewN nq) := ⟨rfl, rfl, rfl, Nat.le_refl _, fun _ _ => rfl⟩
      have HB := hide (hb0.trans (hbq.mono hb0.size))
      have HE0 := hide (HE.out.kept HB.out)
      obtain ⟨w1, hw1⟩ : ∃ w1, w0.drewN nq = w1 := ⟨_, rfl⟩
      rw [hw1] at HB HE0 ⊢
      clear hw1 hbq hb0 c0 c1 c2 c3
      go_upto_region 2 with (fail)
      go_cut [46] (fun s46 wx => s46 = .bool false ∧ wx = w1)
      case first =>
        rcases hx with hx | hx | hx
        · have n9 : (x == 9) = true := by rw [hx]; rfl
          have m9 : (x != 9) = false := by rw [bne, n9]; rfl
          clear hx
          go_wp2_with fail
          refine (short16_any s _ hss).mono ?_
          rintro e w1_ ⟨rfl, rfl⟩
          rw [HDs.out]
          go_wp2_with fail
          go_meet
          exact ⟨rfl, rfl⟩
        · have n9 : (x == 9) = false := by rw [hx]; rfl
          have m9 : (x != 9) = true := by rw [bne, n9]; rfl
          have n10 : (x == 10) = true := by rw [hx]; rfl
          have m10 : (x != 10) = false := by rw [bne, n10]; rfl
          clear hx
          go_wp2_with fail
          refine (short16_any s _ hss).mono ?_
          rintro e w1_ ⟨rfl, rfl⟩
          rw [HDs.out]
          go_wp2_with fail
          go_meet
          exact ⟨rfl, rfl⟩
        · have n9 : (x == 9) = false := by rw [hx]; rfl
          have m9 : (x != 9) = true := by rw [bne, n9]; rfl
          have n10 : (x == 10) = false := by rw [hx]; rfl
          have m10 : (x != 10) = true := by rw [bne, n10]; rfl
          have n13 : (x == 13) = true := by rw [hx]; rfl
          have m13 : (x != 13) = false := by rw [bne, n13]; rfl
          clear hx
          go_wp2_with fail
          refine (short16_any s _ hss).mono ?_
          rintro e w1_ ⟨rfl, rfl⟩
          rw [HDs.out]
          go_wp2_with fail
          go_meet
          exact ⟨rfl, rfl⟩
      obtain ⟨h46, hwc⟩ := hcut
      subst h46 hwc
      go_wp2_with fail
      have hcv := convG
      have hsy : (strOfNums [y]).size = 1 := rfl
      have hsx : (strOfNums [x]).size = 1 := rfl
      have hzt : z.toNat ≤ s.size := by omega
      have x1 : (s.extract 0 z.toNat).size ≤ 3000 := by rw [ByteArray.size_extract]; omega
      have x2 : (s.extract z.toNat s.size).size ≤ 3000 := by rw [ByteArray.size_extract]; omega
      have a1 : (strOfNums [y] ++ s.extract 0 z.toNat).size ≤ 4000 := by rw [ByteArray.size_append]; omega
      have a2 : (strOfNums [y] ++ s.extract 0 z.toNat ++ strOfNums [x]).size ≤ 4001 := by rw [ByteArray.size_append]; omega
      have a3 : (strOfNums [y] ++ s.extract 0 z.toNat ++ strOfNums [x] ++ s.extract z.toNat s.size).size ≤ 7001 := by rw [ByteArray.size_append]; omega
      have a4 : (strOfNums [y] ++ s.extract 0 z.toNat ++ strOfNums [x] ++ s.extract z.toNat s.size ++ strOfNums [y]).size ≤ 7002 := by rw [ByteArray.size_append]; omega
      have HT := hide a4
      have HS := hide hs
      have HBX : Hid (∀ o1 o2 o3 : Obj, Below wc.heap.size wc (((wc.alloc o1).alloc o2).alloc o3).drew) := hide (fun o1 o2 o3 => ((((Below.refl _ wc).alloc (Nat.le_refl _) o1).alloc (by simp) o2).alloc (by simp; omega) o3).drew)
      obtain ⟨U, hU⟩ : ∃ U, str (lkClean s.data.toList) = U := ⟨_, rfl⟩
      obtain ⟨V, hV⟩ : ∃ V, str (lkClean (strOfNums [y] ++ s.extract 0 z.toNat ++ strOfNums [x] ++ s.extract z.toNat s.size ++ strOfNums [y]).data.toList) = V := ⟨_, rfl⟩
      have HK : Hid (U = V → lkKind (lkClean (strOfNums [y] ++ s.extract 0 z.toNat ++ strOfNums [x] ++ s.extract z.toNat s.size ++ strOfNums [y]).data.toList) = lkKind (lkClean s.data.toList)) := hide (fun e => by
        rw [← hU, ← hV] at e
        have := congrArg (fun b : ByteArray => b.data.toList) e
        simp only [str_toList] at this
        rw [this])
      have HU := hide hU
      have HV := hide hV
      clear hU hV
      have p1 : ∀ (v : Value) (o1 : Obj), ((wc.alloc (.cells #[v] 5)).alloc o1).cell? ⟨wc.heap.size, 0, none⟩ = some v := fun v o1 => put1 wc v o1
      have p2 : ∀ (v : Value) (o1 o2 : Obj), (((wc.alloc (.cells #[v] 5)).alloc o1).alloc o2).cell? ⟨wc.heap.size, 0, none⟩ = some v := fun v o1 o2 => put2 wc v o1 o2
      have p3 : ∀ (v : Value) (o1 : Obj), ((wc.alloc o1).alloc (.cells #[v] 5)).cell? ⟨wc.heap.size + 1, 0, none⟩ = some v := fun v o1 => put3 wc v o1
      have p4 : ∀ (v : Value) (o1 o2 : Obj), (((wc.alloc o1).alloc (.cells #[v] 5)).alloc o2).cell? ⟨wc.heap.size + 1, 0, none⟩ = some v := fun v o1 o2 => put4 wc v o1 o2
      have p5 : ∀ (v : Value) (o1 o2 : Obj), (((wc.alloc o1).alloc o2).alloc (.cells #[v] 5)).cell? ⟨wc.heap.size + 1 + 1, 0, none⟩ = some v := fun v o1 o2 => put5 wc v o1 o2
      go_region
      all_goals
        clear p1 p2 p3 p4 p5 hcv a1 a2 a3 a4 x1 x2 hzt
        go_wp2_with fail
        refine (ref16Clean_any s _ (by have := HS.out; omega)).mono ?_
        rintro e w3 ⟨rfl, hb3⟩
        have HB3 := hide (HB.out.trans (((HBX.out _ _ _).trans (hb3.mono (HBX.out _ _ _).size)).mono HB.out.size))
        clear hb3
        rw [HU.out]
        go_wp2_with fail
        refine (ref16Clean_any _ _ (by have := HT.out; omega)).mono ?_
        rintro e w4 ⟨rfl, hb4⟩
        have HB4 := hide (HB3.out.trans (hb4.mono HB3.out.size))
        have HE4 := hide (HE.out.kept HB4.out)
        clear hb4
        rw [HV.out]
        go_wp2_with fail
        refine (linkClean_any _ _ (by have := HT.out; omega) HE4.out).mono ?_
        rintro e w5 ⟨rfl, hb5⟩
        have HB5 := hide (HB4.out.trans (hb5.mono HB4.out.size))
        have HE5 := hide (HE4.out.kept hb5)
        clear hb5
        rw [HV.out]
        by_cases huv : U = V
        · have HKK := hide (HK.out huv)
          subst huv
          go_wp2_with fail
          refine (linkKind_any _ _ (by have := HT.out; omega) HE5.out).mono ?_
          rintro e w6 ⟨rfl, hb6⟩
          have HB6 := hide (HB5.out.trans (hb6.mono HB5.out.size))
          have HE6 := hide (HE5.out.kept hb6)
          clear hb6
          rw [HKK.out]
          go_wp2_with fail
          refine (linkKind_any s _ (by have := HS.out; omega) HE6.out).mono ?_
          rintro e w7 ⟨rfl, hb7⟩
          have HB7 := hide (HB6.out.trans (hb7.mono HB6.out.size))
          have HE7 := hide (HE6.out.kept hb7)
          clear hb7
          go_wp2_with fail
          refine (live16_any _ HE7.out).mono ?_
          rintro e w8 ⟨rfl, hb8⟩
          go_wp2_with fail
          go_ret
          exact ⟨rfl, HB7.out.trans (hb8.mono HB7.out.size)⟩
        · have t5 : (U.toList == V.toList) = false := by
            rw [bytes_list, bytes_list]
            exact beq_eq_false_iff_ne.2 (fun e => huv (ext_list e))
          clear huv
          go_wp2_with fail
          refine (live16_any _ HE5.out).mono ?_
          rintro e w8 ⟨rfl, hb8⟩
          go_wp2_with fail
          go_ret
          exact ⟨rfl, HB5.out.trans (hb8.mono HB5.out.size)⟩
  · have n9 : (x == 9) = false := beq_eq_false_iff_ne.2 (fun e => hx (by rw [e]; simp))
    have m9 : (x != 9) = true := by rw [bne, n9]; rfl
    have n10 : (x == 10) = false := beq_eq_false_iff_ne.2 (fun e => hx (by rw [e]; simp))
    have m10 : (x != 10) = true := by rw [bne, n10]; rfl
    have n13 : (x == 13) = false := beq_eq_false_iff_ne.2 (fun e => hx (by rw [e]; simp))
    have m13 : (x != 13) = true := by rw [bne, n13]; rfl
    clear hx
    go_enter Tryd.func4, Tryd.ntmps4
    go_wp2_with fail
    have c0 : (w.alloc (.cells #[.string s, .int .i64 z, .int .u8 x, .int .u8 y] 27)).cell? ⟨w.heap.size, 0, none⟩ = some (.string s) := by rw [World.cell?_alloc_at _ _ _ _ rfl]; rfl
    have c1 : (w.alloc (.cells #[.string s, .int .i64 z, .int .u8 x, .int .u8 y] 27)).cell? ⟨w.heap.size, 1, none⟩ = some (.int .i64 z) := by rw [World.cell?_alloc_at _ _ _ _ rfl]; rfl
    have c2 : (w.alloc (.cells #[.string s, .int .i64 z, .int .u8 x, .int .u8 y] 27)).cell? ⟨w.heap.size, 2, none⟩ = some (.int .u8 x) := by rw [World.cell?_alloc_at _ _ _ _ rfl]; rfl
    have c3 : (w.alloc (.cells #[.string s, .int .i64 z, .int .u8 x, .int .u8 y] 27)).cell? ⟨w.heap.size, 3, none⟩ = some (.int .u8 y) := by rw [World.cell?_alloc_at _ _ _ _ rfl]; rfl
    obtain ⟨w0, hw0⟩ : ∃ w0, w.alloc (.cells #[.string s, .int .i64 z, .int .u8 x, .int .u8 y] 27) = w0 := ⟨_, rfl⟩
    have hb0 : Below w.heap.size w w0 := by rw [← hw0]; exact (Below.refl _ w).alloc (Nat.le_refl _) _
    rw [hw0] at c0 c1 c2 c3 ⊢
    clear hw0
    go_quiet (fail)
    have hbq : Below w0.heap.size w0 (w0.drewN nq) := ⟨rfl, rfl, rfl, Nat.le_refl _, fun _ _ => rfl⟩
    have HB := hide (hb0.trans (hbq.mono hb0.size))
    have HE0 := hide (HE.out.kept HB.out)
    obtain ⟨w1, hw1⟩ : ∃ w1, w0.drewN nq = w1 := ⟨_, rfl⟩
    rw [hw1] at HB HE0 ⊢
    clear hw1 hbq hb0 c0 c1 c2 c3
    go_wp2_with fail
    refine (short16_any s _ hss).mono ?_
    rintro e w1_ ⟨rfl, rfl⟩
    rw [HDs.out]
    go_wp2_with fail
    refine (live16_any _ HE0.out).mono ?_
    rintro e w2 ⟨rfl, hb2⟩
    go_wp2_with fail
    go_ret
    exact ⟨rfl, HB.out.trans (hb2.mono HB.out.size)⟩
/-- what a Put's values are -/
def PutOk (s : ByteArray) (z x y : Int) : Prop := s.size ≤ maxLen ∧ (Lit.int .i64 z).wf = true ∧ (Lit.int .u8 x).wf = true ∧ (Lit.int .u8 y).wf = true
theorem law_LinkPut (s : ByteArray) (z x y : Int) (k : PutOk s z x y) (w : World) (hE : EnvU w) :
    Calls Tryd.prog 4 #[.agg #[.string s, .int .i64 z, .int .u8 x, .int .u8 y]] w fun e w' => e = .returned (.bool true) ∧ Below w.heap.size w w' := by
  obtain ⟨k1, k2, k3, k4⟩ := k
  have a1 : IntKind.i64.min = -9223372036854775808 := rfl
  have a2 : IntKind.i64.max = 9223372036854775807 := rfl
  have a3 : IntKind.u8.min = 0 := rfl
  have a4 : IntKind.u8.max = 255 := rfl
  simp only [Lit.wf, Bool.and_eq_true, decide_eq_true_eq] at k2 k3 k4
  exact law0_LinkPut s k1 z x y (by omega) (by omega) (by omega) (by omega) (by omega) (by omega) w hE
end Go.Proofs.YtlhjdjjbmljilaaDoor
