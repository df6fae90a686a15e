/- WALK of addr.angled. No statement is proved here. -/
import Derived.Test.YtnckbdkofbhilaaGreatDoorAddrW
namespace Go.Proofs.YtnckbdkofbhilaaGreatDoor
open Go.RowKit
set_option linter.unusedVariables false
set_option linter.unusedSimpArgs false
set_option maxRecDepth 100000
/-- where the first `<` and its `>` stand, one byte more -/
def angStep (st : Option Nat × Option Nat) (k : Nat) (c : UInt8) (pl : Nat) : Option Nat × Option Nat :=
  if pl ≠ 0 then st
  else if c = 60 ∧ st.1 = none then (some k, st.2)
  else if c = 62 ∧ st.1 ≠ none ∧ st.2 = none then (st.1, some k)
  else st
def encO : Option Nat → Int
  | none => -1
  | some k => k
def angAt (s : ByteArray) : Nat → Option Nat × Option Nat
  | 0 => (none, none)
  | k + 1 => if h : k < s.size then angStep (angAt s k) k s[k] (placeAt s k h) else angAt s k
theorem angAt_succ (s : ByteArray) (k : Nat) (h : k < s.size) : angAt s (k + 1) = angStep (angAt s k) k s[k] (placeAt s k h) := by
  show (if h : k < s.size then _ else _) = _
  rw [dif_pos h]
/-- both lie within, in their order -/
theorem angAt_bd (s : ByteArray) (k : Nat) : (∀ b, (angAt s k).1 = some b → b < k) ∧ (∀ e, (angAt s k).2 = some e → e < k ∧ ∃ b, (angAt s k).1 = some b ∧ b < e) := by
  induction k with
  | zero => exact ⟨fun b h => (by cases h), fun e h => (by cases h)⟩
  | succ k ih =>
    obtain ⟨i1, i2⟩ := ih
    have base : (∀ b, (angAt s k).1 = some b → b < k + 1) ∧ (∀ e, (angAt s k).2 = some e → e < k + 1 ∧ ∃ b, (angAt s k).1 = some b ∧ b < e) :=
      ⟨fun b h => Nat.lt_succ_of_lt (i1 b h), fun e h => ⟨Nat.lt_succ_of_lt (i2 e h).1, (i2 e h).2⟩⟩
    by_cases hk : k < s.size
    · rw [angAt_succ s k hk]
      unfold angStep
      split
      · exact base
      · split
        · rename_i h
          refine ⟨fun b hb => by injection hb with hb; omega, fun e he => ?_⟩
          obtain ⟨_, b, hb, _⟩ := i2 e he
          rw [h.2] at hb; cases hb
        · split
          · rename_i h
            refine ⟨base.1, fun e he => ?_⟩
            injection he with he
            subst he
            obtain ⟨b, hb⟩ := Option.ne_none_iff_exists'.1 h.2.1
            exact ⟨Nat.lt_succ_self _, b, hb, i1 b hb⟩
          · exact base
    · have e : angAt s (k + 1) = angAt s k := by show (if h : k < s.size then _ else _) = _; rw [dif_neg hk]
      rw [e]; exact base
set_option maxHeartbeats 1000000 in
theorem ang_step (k : Nat) (c : UInt8) (pl : Nat) (st : Option Nat × Option Nat) (b1 b2 : Nat) (w : World) (h1 : Box w b1 3 (.int .i64 (encO st.1))) (h2 : Box w b2 3 (.int .i64 (encO st.2))) (hne : b1 ≠ b2) :
    Calls Tryz.prog 95 #[.int .i64 k, .int .u8 c.toNat, .int .i64 pl, .pointer (some ⟨b1, 0, none⟩), .pointer (some ⟨b2, 0, none⟩)] w fun e w' => e = .returned (.tuple #[]) ∧
      (Box w' b1 3 (.int .i64 (encO (angStep st k c pl).1)) ∧ Box w' b2 3 (.int .i64 (encO (angStep st k c pl).2))) ∧
      ∀ P : World → Prop, (∀ w b v, b = b1 ∨ b = b2 → P w → P (w.setCell ⟨b, 0, none⟩ v)) → P w → P w' := by
  have H1 := hide h1
  have H2 := hide h2
  have HN := hide hne
  have c1 := h1.cell
  have f1 := h1.free
  have c2 := h2.cell
  have f2 := h2.free
  have stay : ∀ st' : Option Nat × Option Nat, st' = st → (Box w b1 3 (.int .i64 (encO st'.1)) ∧ Box w b2 3 (.int .i64 (encO st'.2))) ∧ ∀ P : World → Prop, (∀ w b v, b = b1 ∨ b = b2 → P w → P (w.setCell ⟨b, 0, none⟩ v)) → P w → P w :=
    fun st' e => by subst e; exact ⟨⟨h1, h2⟩, fun P _ hP => hP⟩
  have ST := hide stay
  obtain ⟨x, y⟩ := st
  have S1 : Hid (∀ v : Int, v = k → (Box (w.setCell ⟨b1, 0, none⟩ (.int .i64 v)) b1 3 (.int .i64 (encO (some k, y).1)) ∧ Box (w.setCell ⟨b1, 0, none⟩ (.int .i64 v)) b2 3 (.int .i64 (encO (some k, y).2))) ∧ ∀ P : World → Prop, (∀ w b v, b = b1 ∨ b = b2 → P w → P (w.setCell ⟨b, 0, none⟩ v)) → P w → P (w.setCell ⟨b1, 0, none⟩ (.int .i64 v))) :=
    hide fun v hv => by subst hv; exact ⟨⟨h1.set _, h2.far (Ne.symm hne) _⟩, fun P hS hP => hS _ _ _ (.inl rfl) hP⟩
  have S2 : Hid (∀ v : Int, v = k → (Box (w.setCell ⟨b2, 0, none⟩ (.int .i64 v)) b1 3 (.int .i64 (encO (x, some k).1)) ∧ Box (w.setCell ⟨b2, 0, none⟩ (.int .i64 v)) b2 3 (.int .i64 (encO (x, some k).2))) ∧ ∀ P : World → Prop, (∀ w b v, b = b1 ∨ b = b2 → P w → P (w.setCell ⟨b, 0, none⟩ v)) → P w → P (w.setCell ⟨b2, 0, none⟩ (.int .i64 v))) :=
    hide fun v hv => by subst hv; exact ⟨⟨h1.far hne _, h2.set _⟩, fun P hS hP => hS _ _ _ (.inr rfl) hP⟩
  clear h1 h2 hne stay
  by_cases p0 : pl = 0
  · subst p0
    by_cases e1 : c = 60
    · have hc1 : ((c.toNat : Int) == 60) = true := tT 60 e1 (by decide)
      have hc2 : ((c.toNat : Int) == 62) = false := tF 62 (by rw [e1]; decide) (by decide)
      cases x with
      | none =>
        have HS : Hid (angStep (none, y) k c 0 = (some k, y)) := hide (by unfold angStep; rw [if_neg (by decide), if_pos ⟨e1, rfl⟩])
        have c1' : w.cell? ⟨b1, 0, none⟩ = some (.int .i64 (-1)) := c1
        clear e1 c1
        go_enter Tryz.func95, Tryz.ntmps95
        go_wp2_with fail
        go_end0
        exact ⟨rfl, by rw [HS.out]; exact S1.out _ rfl⟩
      | some b =>
        have HS : Hid (angStep (some b, y) k c 0 = (some b, y)) := hide (by unfold angStep; rw [if_neg (by decide), if_neg (fun h => by cases h.2), if_neg (fun h => by rw [e1] at h; exact absurd h.1 (by decide))])
        have c1' : w.cell? ⟨b1, 0, none⟩ = some (.int .i64 (b : Int)) := c1
        have t1 : decide ((b : Int) < 0) = false := decide_eq_false (by omega)
        clear e1 c1
        go_enter Tryz.func95, Tryz.ntmps95
        go_wp2_with fail
        go_end0
        exact ⟨rfl, ST.out _ HS.out⟩
    · have hc1 : ((c.toNat : Int) == 60) = false := tF 60 e1 (by decide)
      by_cases e2 : c = 62
      · have hc2 : ((c.toNat : Int) == 62) = true := tT 62 e2 (by decide)
        cases x with
        | none =>
          have HS : Hid (angStep (none, y) k c 0 = (none, y)) := hide (by unfold angStep; rw [if_neg (by decide), if_neg (fun h => e1 h.1), if_neg (fun h => h.2.1 rfl)])
          have c1' : w.cell? ⟨b1, 0, none⟩ = some (.int .i64 (-1)) := c1
          clear e1 e2 c1
          go_enter Tryz.func95, Tryz.ntmps95
          go_wp2_with fail
          go_end0
          exact ⟨rfl, ST.out _ HS.out⟩
        | some b =>
          have c1' : w.cell? ⟨b1, 0, none⟩ = some (.int .i64 (b : Int)) := c1
          have t1 : decide ((b : Int) ≥ 0) = true := decide_eq_true (by omega)
          cases y with
          | none =>
            have HS : Hid (angStep (some b, none) k c 0 = (some b, some k)) := hide (by unfold angStep; rw [if_neg (by decide), if_neg (fun h => e1 h.1), if_pos ⟨e2, by simp, rfl⟩])
            have c2' : w.cell? ⟨b2, 0, none⟩ = some (.int .i64 (-1)) := c2
            clear e1 e2 c1 c2
            go_enter Tryz.func95, Tryz.ntmps95
            go_wp2_with fail
            go_end0
            exact ⟨rfl, by rw [HS.out]; exact S2.out _ rfl⟩
          | some d =>
            have HS : Hid (angStep (some b, some d) k c 0 = (some b, some d)) := hide (by unfold angStep; rw [if_neg (by decide), if_neg (fun h => e1 h.1), if_neg (fun h => by cases h.2.2)])
            have c2' : w.cell? ⟨b2, 0, none⟩ = some (.int .i64 (d : Int)) := c2
            have t2 : decide ((d : Int) < 0) = false := decide_eq_false (by omega)
            clear e1 e2 c1 c2
            go_enter Tryz.func95, Tryz.ntmps95
            go_wp2_with fail
            go_end0
            exact ⟨rfl, ST.out _ HS.out⟩
      · have hc2 : ((c.toNat : Int) == 62) = false := tF 62 e2 (by decide)
        have HS : Hid (angStep (x, y) k c 0 = (x, y)) := hide (by unfold angStep; rw [if_neg (by decide), if_neg (fun h => e1 h.1), if_neg (fun h => e2 h.1)])
        clear e1 e2
        go_enter Tryz.func95, Tryz.ntmps95
        go_wp2_with fail
        go_end0
        exact ⟨rfl, ST.out _ HS.out⟩
  · have t0 : ((pl : Int) != 0) = true := by rw [bne_iff_ne]; omega
    have HS : Hid (angStep (x, y) k c pl = (x, y)) := hide (by unfold angStep; rw [if_pos p0])
    clear p0
    go_enter Tryz.func95, Tryz.ntmps95
    go_wp2_with fail
    go_end0
    exact ⟨rfl, ST.out _ HS.out⟩
/-- walk with angled's function -/
theorem walk_ang (s : ByteArray) (b1 b2 B : Nat) (W0 w : World) (hs : s.size ≤ 1048576) (h1 : Box w b1 3 (.int .i64 (-1))) (h2 : Box w b2 3 (.int .i64 (-1))) (hne : b1 ≠ b2) (hB1 : B ≤ b1) (hB2 : B ≤ b2) (hB : Below B W0 w) :
    Calls Tryz.prog 62 #[.string s, .func (.func 95) #[] #[.pointer (some ⟨b1, 0, none⟩), .pointer (some ⟨b2, 0, none⟩)]] w fun e w' => e = .returned (.tuple #[]) ∧
      (Box w' b1 3 (.int .i64 (encO (angAt s s.size).1)) ∧ Box w' b2 3 (.int .i64 (encO (angAt s s.size).2)) ∧ Below B W0 w') := by
  have l1 := h1.lt
  have l2 := h2.lt
  have n1 : b1 ≠ w.heap.size := Nat.ne_of_lt l1
  have n2 : b2 ≠ w.heap.size := Nat.ne_of_lt l2
  have hBw : B ≤ w.heap.size := Nat.le_of_lt (Nat.lt_of_le_of_lt hB1 l1)
  refine walk_angled s _ w (fun k w' => Box w' b1 3 (.int .i64 (encO (angAt s k).1)) ∧ Box w' b2 3 (.int .i64 (encO (angAt s k).2)) ∧ Below B W0 w') hs ?_ ?_ ?_ ?_
  · exact ⟨h1.alloc _, h2.alloc _, hB.alloc hBw _⟩
  · rintro k w' i v ⟨i1, i2, i3⟩
    exact ⟨i1.far n1 v, i2.far n2 v, i3.setCell hBw v⟩
  · rintro k w' ⟨i1, i2, i3⟩
    exact ⟨i1.drew, i2.drew, i3.drew⟩
  · rintro k hk w' ⟨i1, i2, i3⟩
    refine (ang_step k s[k] (placeAt s k hk) (angAt s k) b1 b2 w' i1 i2 hne).mono ?_
    rintro e w2 ⟨rfl, ⟨j1, j2⟩, j3⟩
    rw [← angAt_succ s k hk] at j1 j2
    refine ⟨rfl, ⟨j1, j2, j3 (fun x => Below B W0 x) (fun x b v hb hx => hx.setCell ?_ v) i3⟩, j3 (fun x => x.heap[w.heap.size]? = w'.heap[w.heap.size]?) (fun x b v hb hx => (Below.heap_setCell x _ v _ ?_).trans hx) rfl⟩
    · rcases hb with rfl | rfl
      · exact hB1
      · exact hB2
    · rcases hb with rfl | rfl
      · exact Ne.symm n1
      · exact Ne.symm n2
/-- what angled tells -/
def angOut (s : ByteArray) : ByteArray × ByteArray × Bool :=
  match angAt s s.size with
  | (none, _) => (⟨#[]⟩, ⟨#[]⟩, false)
  | (some b, y) => (s.extract 0 b, s.extract (b + 1) (y.getD s.size), true)
set_option maxHeartbeats 1000000 in
theorem angled_any (s : ByteArray) (w : World) (hs : s.size ≤ 1048576) :
    Calls Tryz.prog 64 #[.string s] w fun e w' => e = .returned (.tuple #[.string (angOut s).1, .string (angOut s).2.1, .bool (angOut s).2.2]) ∧ Below w.heap.size w w' := by
  have B1 := (Box.new w 3 (.int .i64 (-1))).alloc (.cells #[.int .i64 (-1)] 3)
  have B2 := Box.new (w.alloc (.cells #[.int .i64 (-1)] 3)) 3 (.int .i64 (-1))
  rw [World.size_alloc] at B2
  have C := hide (walk_ang s w.heap.size (w.heap.size + 1) w.heap.size w _ hs B1 B2 (Nat.ne_of_lt (Nat.lt_succ_self _)) (Nat.le_refl _) (Nat.le_succ _) (((Below.refl w.heap.size w).alloc (Nat.le_refl _) _).alloc (by rw [World.size_alloc]; exact Nat.le_succ _) _))
  obtain ⟨bd1, bd2⟩ := angAt_bd s s.size
  have HO : Hid (angOut s = match angAt s s.size with | (none, _) => (⟨#[]⟩, ⟨#[]⟩, false) | (some b, y) => (s.extract 0 b, s.extract (b + 1) (y.getD s.size), true)) := hide rfl
  obtain ⟨⟨x, y⟩, hA⟩ : ∃ A, angAt s s.size = A := ⟨_, rfl⟩
  rw [hA] at C bd1 bd2 HO
  clear hA B1 B2
  cases x with
  | none =>
    clear bd1 bd2 hs
    go_enter Tryz.func64, Tryz.ntmps64
    go_wp2_with (go_at_call 62; refine C.out.mono ?_; rintro e w1 ⟨rfl, hb1, hb2, hbw⟩; have HW := hide hbw; have c1 : w1.cell? ⟨w.heap.size, 0, none⟩ = some (.int .i64 (-1)) := hb1.cell; clear hb1 hb2 hbw)
    go_ret3
    exact ⟨by rw [HO.out]; rfl, HW.out⟩
  | some b =>
    have hb := bd1 b rfl
    have q1 : decide ((b : Int) < 0) = false := decide_eq_false (by omega)
    have o1 : (b : Int) + 1 ≤ s.size := by omega
    have o0 : (0 : Int) ≤ b := by omega
    have o2 : (b : Int) ≤ s.size := by omega
    have o3 : (0 : Int) ≤ (b : Int) + 1 := by omega
    have o4 : ((b : Int) + 1).toNat = b + 1 := by omega
    cases y with
    | none =>
      clear bd1 bd2
      go_enter Tryz.func64, Tryz.ntmps64
      go_wp2_with (go_at_call 62; refine C.out.mono ?_; rintro e w1 ⟨rfl, hb1, hb2, hbw⟩; have HW : Hid (Below w.heap.size w (w1.setCell ⟨w.heap.size + 1, 0, none⟩ (.int .i64 s.size))) := hide (hbw.setCell (Nat.le_succ _) _); have c1 : w1.cell? ⟨w.heap.size, 0, none⟩ = some (.int .i64 (b : Int)) := hb1.cell; have c2 : w1.cell? ⟨w.heap.size + 1, 0, none⟩ = some (.int .i64 (-1)) := hb2.cell; have f2 := hb2.free; have c3 : (w1.setCell ⟨w.heap.size + 1, 0, none⟩ (.int .i64 s.size)).cell? ⟨w.heap.size, 0, none⟩ = some (.int .i64 (b : Int)) := (hb1.far (Nat.ne_of_lt (Nat.lt_succ_self _)) _).cell; have c4 := (hb2.set (.int .i64 s.size)).cell; clear hb1 hb2 hbw)
      go_region
      all_goals (try go_wp2)
      all_goals
        go_ret3
        exact ⟨by rw [HO.out]; rfl, HW.out.drew⟩
    | some d =>
      obtain ⟨hd, b', hb', hlt⟩ := bd2 d rfl
      obtain rfl : b = b' := by injection hb'
      have q2 : decide ((d : Int) < 0) = false := decide_eq_false (by omega)
      have p1 : (d : Int) ≤ s.size := by omega
      have p2 : (b : Int) + 1 ≤ d := by omega
      have p3 : (0 : Int) ≤ d := by omega
      clear bd1 bd2 hb'
      go_enter Tryz.func64, Tryz.ntmps64
      go_wp2_with (go_at_call 62; refine C.out.mono ?_; rintro e w1 ⟨rfl, hb1, hb2, hbw⟩; have HW := hide hbw; have c1 : w1.cell? ⟨w.heap.size, 0, none⟩ = some (.int .i64 (b : Int)) := hb1.cell; have c2 : w1.cell? ⟨w.heap.size + 1, 0, none⟩ = some (.int .i64 (d : Int)) := hb2.cell; clear hb1 hb2 hbw)
      go_region
      all_goals (try go_wp2)
      all_goals
        go_ret3
        exact ⟨by rw [HO.out]; rfl, HW.out.drew⟩
end Go.Proofs.YtnckbdkofbhilaaGreatDoor
