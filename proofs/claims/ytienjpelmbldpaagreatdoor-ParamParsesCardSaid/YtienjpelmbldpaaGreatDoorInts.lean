/- Rows of ints that are read; append of a text that leaves them; the reference's units. No statement is proved here. -/
import Derived.Test.YtienjpelmbldpaaGreatDoorBaseM
import Derived.StillTailTactics
namespace Go.Proofs.YtienjpelmbldpaaGreatDoor
open Go.RowKit
set_option linter.unusedVariables false
set_option linter.unusedSimpArgs false

/-- the value v is a row of these ints -/
def Ints (w : World) (v : Value) (l : List Nat) : Prop :=
  (v = .slice none 0 0 ∧ l = []) ∨ ∃ g cap cs, v = .slice (some ⟨g, 0, none⟩) l.length cap ∧ w.heap[g]? = some (.cells cs 3 (0, 0)) ∧ ∀ j (h : j < l.length), cs[j]? = some (.int .i64 (l[j]'h))
theorem Ints.kept {w w' : World} {v : Value} {l : List Nat} (h : Ints w v l) (hb : Below w.heap.size w w') : Ints w' v l := by
  rcases h with h | ⟨g, cap, cs, h1, h2, h3⟩
  · exact .inl h
  · exact .inr ⟨g, cap, cs, h1, (hb.block g (Array.getElem?_eq_some_iff.1 h2).1).trans h2, h3⟩
theorem Ints.drew {w : World} {v : Value} {l : List Nat} (h : Ints w v l) : Ints w.drew v l := h
theorem Ints.own {w w' : World} {v : Value} {l : List Nat} (h : Ints w v l) {B : Nat} {vb : Value} {lb : List UInt8} {W0 : World} (hb : Buf B vb lb W0 w) (hg : w.grownBy w' vb.ownBlock) : Ints w' v l := by
  rcases h with h | ⟨g, cap, cs, h1, h2, h3⟩
  · exact .inl h
  · refine .inr ⟨g, cap, cs, h1, (hg.block g (Array.getElem?_eq_some_iff.1 h2).1 (fun e => ?_)).trans h2, h3⟩
    rcases hb.1.2 with ⟨rfl, _⟩ | ⟨g', cap', cur, rfl, _, hh, _⟩
    · simp [Value.ownBlock] at e
    · have e' : g' = g := by simpa [Value.ownBlock] using e.symm
      subst e'
      rw [hh] at h2
      injection h2 with h2
      injection h2 with _ e2
      exact absurd e2 (by decide)
theorem Ints.cell {w : World} {g cap n : Nat} {l : List Nat} (h : Ints w (.slice (some ⟨g, 0, none⟩) n cap) l) (j : Nat) (hj : j < l.length) : w.cell? ⟨g, j, none⟩ = some (.int .i64 (l[j]'hj)) := by
  rcases h with ⟨h, _⟩ | ⟨g', cap', cs, h1, h2, h3⟩
  · cases h
  · injection h1 with e1 e2 e3
    injection e1 with e1
    injection e1 with e1
    subst e1
    rw [cell_of_row _ _ j _ _ _ h2]
    exact h3 j hj
theorem Ints.form {w : World} {v : Value} {l : List Nat} (h : Ints w v l) : ∃ ao cap, v = .slice ao l.length cap ∧ (0 < l.length → ∃ g, ao = some ⟨g, 0, none⟩) := by
  rcases h with ⟨rfl, rfl⟩ | ⟨g, cap, cs, rfl, _⟩
  · exact ⟨none, 0, rfl, fun h => absurd h (by decide)⟩
  · exact ⟨_, cap, rfl, fun _ => ⟨g, rfl⟩⟩

/-- a row of ints that the call owns -/
def IBuf (B : Nat) (v : Value) (l : List Nat) (W0 w : World) : Prop :=
  w.ownsRow B 3 1 v l.length (l.map fun n : Nat => Value.int .i64 n) ∧ Below B W0 w ∧ B ≤ w.heap.size
theorem info_i64 : (Tryz.prog.info? 3).map (fun i => (i.zero, i.size, i.bytes)) = some (some (.int .i64 0), 1, 8) := by kernel_rfl
theorem IBuf.nil {B : Nat} {W0 w : World} (hb : Below B W0 w) (hB : B ≤ w.heap.size) : IBuf B (.slice none 0 0) [] W0 w := ⟨World.ownsRow_nil w B _ 1, hb, hB⟩
theorem IBuf.grown {B : Nat} {v v' : Value} {l l' : List Nat} {W0 w w' : World} (h : IBuf B v l W0 w) (ho : w'.ownsRow B 3 1 v' l'.length (l'.map fun n : Nat => Value.int .i64 n)) (hg : w.grownBy w' v.ownBlock) : IBuf B v' l' W0 w' :=
  ⟨ho, h.2.1.grown hg h.2.2 (fun k hk => (h.1.lt k hk).1), Nat.le_trans h.2.2 hg.size⟩
theorem IBuf.alloc {B : Nat} {v : Value} {l : List Nat} {W0 w : World} (h : IBuf B v l W0 w) (o : Obj) : IBuf B v l W0 (w.alloc o) :=
  ⟨h.1.alloc o, h.2.1.alloc h.2.2 o, Nat.le_trans h.2.2 ((Below.refl 0 w).alloc (Nat.zero_le _) o).size⟩
theorem IBuf.drew {B : Nat} {v : Value} {l : List Nat} {W0 w : World} (h : IBuf B v l W0 w) : IBuf B v l W0 w.drew := ⟨h.1, h.2.1.drew, h.2.2⟩
theorem IBuf.ints {B : Nat} {v : Value} {l : List Nat} {W0 w : World} (h : IBuf B v l W0 w) : Ints w v l := by
  rcases h.1.2 with ⟨h1, h2⟩ | ⟨g, cap, cur, h1, h2, h3, h4, h5, h6, h7⟩
  · exact .inl ⟨h1, List.eq_nil_of_length_eq_zero h2⟩
  · refine .inr ⟨g, cap, cur, h1, h3, fun j hj => ?_⟩
    have : (cur.toList.take (l.length * 1))[j]? = some (.int .i64 (l[j]'hj)) := by rw [h7]; simp [hj]
    rw [List.getElem?_take, if_pos (by omega)] at this
    simpa using this

/-- append(u, n): the one number lies in the block that has just been laid -/
theorem wpList_ints {ops : Array Oper} {rest : List Oper} {o : Oper} {a : Act} {Q : Exit → Act → World → Prop} (hgd : o.guard = none) (s x : Operand)
    (ho : o.op = .call { callee := .builtin .append, args := #[s, x], argTypes := #[83, 83] })
    (B : Nat) (v : Value) (l : List Nat) (hs : a.eval s = v) (W0 w0 : World) (n : Nat) (z : Int) (hz : z = n) (hb : IBuf B v l W0 w0)
    (hx : a.eval x = .slice (some ⟨w0.heap.size, 0, none⟩) 1 1) (hlen : l.length + 1 ≤ 1000000000)
    (h : ∀ v' w', IBuf B v' (l ++ [n]) W0 w' → wpList Tryz.prog ops Q rest (a.put o.dst v') w') : wpList Tryz.prog ops Q (o :: rest) a (w0.alloc (.cells #[.int .i64 z] 3)) := by
  subst hz
  obtain ⟨i0, hi, hz0, hz1, hz2⟩ := info_parts info_i64
  have hb' := hb.alloc (.cells #[.int .i64 n] 3)
  refine wpList_append_own _ hgd s x 83 ho B 3 i0 (.int .i64 0) 1 8 Tryz.underlying83 hi hz0 hz1 hz2 rfl (by decide) v l.length (l.map fun n : Nat => Value.int .i64 n) hs hb'.1 ⟨w0.heap.size, 0, none⟩ 1 1 [.int .i64 n] hx rfl ?_ ?_ (by unfold maxLen; omega) (by omega) hb'.2.2 ?_
  · intro j u hj
    match j, hj with
    | 0, hj => simp at hj; subst hj; simp [Addr.add]
    | (j + 1), hj => simp at hj
  · intro u hu; simp at hu; subst hu; rfl
  · intro v' w' ho' hg _
    exact h v' w' (hb'.grown (l' := l ++ [n]) (by simpa using ho') hg)

/-- append(u, n) at a step of a region that draws -/
theorem step_ints {ops : Array Oper} {o : Oper} {a : Act} {w : World} {K : Act → World → Prop} {Q : Exit → Act → World → Prop} {E : Prop} (hgd : o.guard = none) (s x : Operand)
    (ho : o.op = .call { callee := .builtin .append, args := #[s, x], argTypes := #[83, 83] })
    (B : Nat) (v : Value) (l : List Nat) (hs : a.eval s = v) (W0 : World) (hb : IBuf B v l W0 w) (ad : Addr) (hx : a.eval x = .slice (some ad) 1 1)
    (n : Nat) (hc : w.cell? ad = some (.int .i64 n)) (hlen : l.length + 1 ≤ 1000000000)
    (h : ∀ v' w', IBuf B v' (l ++ [n]) W0 w' → K (a.put o.dst v') w') :
    if Region.wanted o (yielded ops a.tmps) = true then Oper.wp Tryz.prog o a w K Q else E := by
  have hw : Region.wanted o (yielded ops a.tmps) = true := by simp [Region.wanted, hgd]
  rw [if_pos hw]
  obtain ⟨i0, hi, hz0, hz1, hz2⟩ := info_parts info_i64
  refine wp_append_own _ s x 83 ho B 3 i0 (.int .i64 0) 1 8 Tryz.underlying83 hi hz0 hz1 hz2 rfl (by decide) v l.length (l.map fun n : Nat => Value.int .i64 n) hs hb.1 ad 1 1 [.int .i64 n] hx rfl ?_ ?_ (by unfold maxLen; omega) (by omega) hb.2.2 ?_
  · intro j u hj
    match j, hj with
    | 0, hj => simp at hj; subst hj; simpa [Addr.add] using hc
    | (j + 1), hj => simp at hj
  · intro u hu; simp at hu; subst hu; rfl
  · intro v' w' ho' hg _
    exact h v' w' (hb.grown (l' := l ++ [n]) (by simpa using ho') hg)

/-- append(buf, text...), rows of ints kept -/
theorem wpList_buf_text_i {ops : Array Oper} {rest : List Oper} {o : Oper} {a : Act} {Q : Exit → Act → World → Prop} {w : World} (hgd : o.guard = none) (sl x : Operand)
    (ho : o.op = .call { callee := .builtin .append, args := #[sl, x], argTypes := #[50, 9] })
    (B : Nat) (v : Value) (l : List UInt8) (hs : a.eval sl = v) (W0 : World) (hb : Buf B v l W0 w) (s : ByteArray) (hx : a.eval x = .string s) (hlen : l.length + s.size ≤ 140737488355328)
    (h : ∀ v' w', Buf B v' (l ++ s.data.toList) W0 w' → (∀ vi u, Ints w vi u → Ints w' vi u) → wpList Tryz.prog ops Q rest (a.put o.dst v') w') : wpList Tryz.prog ops Q (o :: rest) a w := by
  obtain ⟨i0, hi, hz0, hz1, hz2⟩ := info_parts info_u8
  refine Lib.wpList_append_own_string w hgd sl x 50 9 ho B 5 i0 Tryz.underlying50 Tryz.underlying9 hi hz0 hz1 hz2 v l.length (cellsOf l) hs hb.1 s hx (by unfold maxLen; omega) hlen hb.2.2 ?_
  intro v' w' ho' hg _
  refine h v' w' (hb.grown (l' := l ++ s.data.toList) ?_ hg) (fun vi u hu => hu.own hb hg)
  rw [List.length_append, toList_length, cellsOf, List.map_append]
  exact ho'

/-- the same at a step of a region that draws -/
theorem step_buf_text_i {ops : Array Oper} {o : Oper} {a : Act} {w : World} {K : Act → World → Prop} {Q : Exit → Act → World → Prop} {E : Prop} (hgd : o.guard = none) (sl x : Operand)
    (ho : o.op = .call { callee := .builtin .append, args := #[sl, x], argTypes := #[50, 9] })
    (B : Nat) (v : Value) (l : List UInt8) (hs : a.eval sl = v) (W0 : World) (hb : Buf B v l W0 w) (s : ByteArray) (hx : a.eval x = .string s) (hlen : l.length + s.size ≤ 140737488355328)
    (h : ∀ v' w', Buf B v' (l ++ s.data.toList) W0 w' → (∀ vi u, Ints w vi u → Ints w' vi u) → K (a.put o.dst v') w') :
    if Region.wanted o (yielded ops a.tmps) = true then Oper.wp Tryz.prog o a w K Q else E := by
  have hw : Region.wanted o (yielded ops a.tmps) = true := by simp [Region.wanted, hgd]
  rw [if_pos hw]
  obtain ⟨i0, hi, hz0, hz1, hz2⟩ := info_parts info_u8
  obtain ⟨v', w', hr, h2, h3, h4⟩ := Lib.run_append_own_string (P := Tryz.prog) w B 50 9 o.type 5 i0 Tryz.underlying50 Tryz.underlying9 hi hz0 hz1 hz2 v l.length (cellsOf l) hb.1 s (by unfold maxLen; omega) hlen hb.2.2
  unfold Oper.wp execOp
  simp only [ho, resolve, invoke, builtin, Sem.run_bind, Sem.run_pure, Result.andThen_ok, List.map_toArray, List.map_cons, List.map_nil, hs, hx, hr]
  refine h v' w' (hb.grown (l' := l ++ s.data.toList) ?_ h3) (fun vi u hu => hu.own hb h3)
  rw [List.length_append, toList_length, cellsOf, List.map_append]
  exact h2

theorem units_length (big : Bool) (l : List UInt8) : (unitsL big l).length ≤ l.length := by
  refine list_ind (p := fun l => (unitsL big l).length ≤ l.length) ?_ l
  intro l ih
  match l, ih with
  | [], _ => simp [unitsL]
  | [_], _ => simp [unitsL]
  | a :: b :: r, ih => have := ih r (by simp; omega); rw [units_cons]; simp; omega

set_option maxRecDepth 100000 in
set_option maxHeartbeats 4000000 in
theorem units_any (s : ByteArray) (big : Bool) (w : World) (hs : s.size ≤ 1048576) :
    Calls Tryz.prog 76 #[.string s, .bool big] w fun e w' => ∃ v, e = .returned (.tuple #[v, .bool (decide (s.size % 2 = 1))]) ∧ Ints w' v (unitsL big s.data.toList) ∧ Below w.heap.size w w' := by
  have hb0 : IBuf w.heap.size (.slice none 0 0) [] w w := IBuf.nil (Below.refl _ _) (Nat.le_refl _)
  have HB0 := hide hb0
  clear hb0
  cases big
  · go_enter Tryz.func76, Tryz.ntmps76
    go_wp2
    go_loopw [6, 7] (fun v i wr => ∃ (k : Nat) (acc : List Nat), k ≤ s.size + 1 ∧ i = .int .i64 k ∧ IBuf w.heap.size v acc w wr ∧ acc.length ≤ k ∧ acc ++ unitsL false (s.data.toList.drop k) = unitsL false s.data.toList) (fun _ i _ => s.size + 1 - (intOf i).toNat)
    case atStart => exact ⟨0, [], Nat.zero_le _, rfl, HB0.out, Nat.le_refl _, by simp⟩
    case round =>
      obtain ⟨k, acc, hk, rfl, hb, hacc, hd⟩ := hrel
      have HB := hide hb
      clear hb
      by_cases hlt : k + 1 < s.size
      · rw [drop_cons s k (by omega), drop_cons s (k + 1) hlt, units_cons] at hd
        have hR : (acc ++ [num false s[k] s[k + 1]]) ++ unitsL false (s.data.toList.drop (k + 2)) = unitsL false s.data.toList := by rw [← hd]; simp
        have HR := hide hR
        clear hR hd
        have ha := byte_lt s[k]
        have hbb := byte_lt s[k + 1]
        have hk1 : k < s.size := by omega
        have i0 : (k : Int) < s.size := by omega
        have i1 : (k : Int) + 1 < s.size := by omega
        have i2 : (0 : Int) ≤ (k : Int) + 1 := by omega
        have i3 : (0 : Int) ≤ (k : Int) := by omega
        have hnum : (num false s[k] s[k + 1] : Int) = 256 * (s[k + 1].toNat : Int) + (s[k].toNat : Int) := by unfold num; simp
        have HN := hide hnum
        generalize num false s[k] s[k + 1] = nn at HR HN
        have wa : wrap64 (s[k].toNat : Int) = s[k].toNat := IntWalk.wrap64_in _ (by omega)
        have wb : wrap64 (s[k + 1].toNat : Int) = s[k + 1].toNat := IntWalk.wrap64_in _ (by omega)
        have wa' : IntKind.i64.wrap (s[k].toNat : Int) = s[k].toNat := IntWalk.i64_in _ (by omega)
        have wb' : IntKind.i64.wrap (s[k + 1].toNat : Int) = s[k + 1].toNat := IntWalk.i64_in _ (by omega)
        have q1 : IntKind.i64.wrap (256 * (s[k + 1].toNat : Int)) = 256 * (s[k + 1].toNat : Int) := IntWalk.i64_in _ (by omega)
        have q2 : IntKind.i64.wrap (256 * (s[k + 1].toNat : Int) + (s[k].toNat : Int)) = 256 * (s[k + 1].toNat : Int) + (s[k].toNat : Int) := IntWalk.i64_in _ (by omega)
        have q3 : IntKind.i64.wrap ((k : Int) + 1) = (k : Int) + 1 := IntWalk.i64_in _ (by omega)
        have n1 : ((k : Int) + 1).toNat = k + 1 := by omega
        clear hnum
        go_wp2_with fail
        go_region_law (
          (refine step_ints rfl _ _ rfl w.heap.size u6 acc rfl w (HB.out.alloc _).drew ⟨wr.heap.size, 0, none⟩ rfl nn ?_ (by omega) ?_
           · rw [HN.out]
             show (wr.alloc _).cell? _ = _
             rw [World.cell?_alloc_at _ _ _ _ rfl]
             rfl
           intro v2 w2 hb2
           have HB2 := hide hb2
           clear hb2))
        all_goals
          go_wp2_with fail
          go_roundw
          case rel => exact ⟨k + 2, acc ++ [nn], by omega, by go_num, HB2.out, by simp; omega, HR.out⟩
          case measure => simp [intOf]; omega
      · have hu : unitsL false (s.data.toList.drop k) = [] := by
          have hl : (s.data.toList.drop k).length < 2 := by rw [List.length_drop, toList_length]; omega
          match s.data.toList.drop k, hl with
          | [], _ => rfl
          | [_], _ => rfl
        rw [hu, List.append_nil] at hd
        have HD := hide hd
        have hm : decide (s.size % 2 = 1) = ((s.size : Int) % 2 == 1) := by
          by_cases g : s.size % 2 = 1
          · rw [decide_eq_true g, beq_iff_eq.2 (by omega)]
          · rw [decide_eq_false g, beq_eq_false_iff_ne.2 (by omega)]
        have HM := hide hm
        clear hd hu hm
        go_wp2_with fail
        go_ret2
        exact ⟨u6, by rw [HM.out]; rfl, by rw [← HD.out]; exact HB.out.ints, HB.out.2.1⟩
  · go_enter Tryz.func76, Tryz.ntmps76
    go_wp2
    go_loopw [6, 7] (fun v i wr => ∃ (k : Nat) (acc : List Nat), k ≤ s.size + 1 ∧ i = .int .i64 k ∧ IBuf w.heap.size v acc w wr ∧ acc.length ≤ k ∧ acc ++ unitsL true (s.data.toList.drop k) = unitsL true s.data.toList) (fun _ i _ => s.size + 1 - (intOf i).toNat)
    case atStart => exact ⟨0, [], Nat.zero_le _, rfl, HB0.out, Nat.le_refl _, by simp⟩
    case round =>
      obtain ⟨k, acc, hk, rfl, hb, hacc, hd⟩ := hrel
      have HB := hide hb
      clear hb
      by_cases hlt : k + 1 < s.size
      · rw [drop_cons s k (by omega), drop_cons s (k + 1) hlt, units_cons] at hd
        have hR : (acc ++ [num true s[k] s[k + 1]]) ++ unitsL true (s.data.toList.drop (k + 2)) = unitsL true s.data.toList := by rw [← hd]; simp
        have HR := hide hR
        clear hR hd
        have ha := byte_lt s[k]
        have hbb := byte_lt s[k + 1]
        have hk1 : k < s.size := by omega
        have i0 : (k : Int) < s.size := by omega
        have i1 : (k : Int) + 1 < s.size := by omega
        have i2 : (0 : Int) ≤ (k : Int) + 1 := by omega
        have i3 : (0 : Int) ≤ (k : Int) := by omega
        have hnum : (num true s[k] s[k + 1] : Int) = 256 * (s[k].toNat : Int) + (s[k + 1].toNat : Int) := by unfold num; simp
        have HN := hide hnum
        generalize num true s[k] s[k + 1] = nn at HR HN
        have wa : wrap64 (s[k].toNat : Int) = s[k].toNat := IntWalk.wrap64_in _ (by omega)
        have wb : wrap64 (s[k + 1].toNat : Int) = s[k + 1].toNat := IntWalk.wrap64_in _ (by omega)
        have wa' : IntKind.i64.wrap (s[k].toNat : Int) = s[k].toNat := IntWalk.i64_in _ (by omega)
        have wb' : IntKind.i64.wrap (s[k + 1].toNat : Int) = s[k + 1].toNat := IntWalk.i64_in _ (by omega)
        have q1 : IntKind.i64.wrap (256 * (s[k].toNat : Int)) = 256 * (s[k].toNat : Int) := IntWalk.i64_in _ (by omega)
        have q2 : IntKind.i64.wrap (256 * (s[k].toNat : Int) + (s[k + 1].toNat : Int)) = 256 * (s[k].toNat : Int) + (s[k + 1].toNat : Int) := IntWalk.i64_in _ (by omega)
        have q3 : IntKind.i64.wrap ((k : Int) + 1) = (k : Int) + 1 := IntWalk.i64_in _ (by omega)
        have n1 : ((k : Int) + 1).toNat = k + 1 := by omega
        clear hnum
        go_wp2_with fail
        go_region_law (
          (refine step_ints rfl _ _ rfl w.heap.size u6 acc rfl w (HB.out.alloc _).drew ⟨wr.heap.size, 0, none⟩ rfl nn ?_ (by omega) ?_
           · rw [HN.out]
             show (wr.alloc _).cell? _ = _
             rw [World.cell?_alloc_at _ _ _ _ rfl]
             rfl
           intro v2 w2 hb2
           have HB2 := hide hb2
           clear hb2))
        all_goals
          go_wp2_with fail
          go_roundw
          case rel => exact ⟨k + 2, acc ++ [nn], by omega, by go_num, HB2.out, by simp; omega, HR.out⟩
          case measure => simp [intOf]; omega
      · have hu : unitsL true (s.data.toList.drop k) = [] := by
          have hl : (s.data.toList.drop k).length < 2 := by rw [List.length_drop, toList_length]; omega
          match s.data.toList.drop k, hl with
          | [], _ => rfl
          | [_], _ => rfl
        rw [hu, List.append_nil] at hd
        have HD := hide hd
        have hm : decide (s.size % 2 = 1) = ((s.size : Int) % 2 == 1) := by
          by_cases g : s.size % 2 = 1
          · rw [decide_eq_true g, beq_iff_eq.2 (by omega)]
          · rw [decide_eq_false g, beq_eq_false_iff_ne.2 (by omega)]
        have HM := hide hm
        clear hd hu hm
        go_wp2_with fail
        go_ret2
        exact ⟨u6, by rw [HM.out]; rfl, by rw [← HD.out]; exact HB.out.ints, HB.out.2.1⟩
end Go.Proofs.YtienjpelmbldpaaGreatDoor
