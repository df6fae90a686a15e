/- WALK of addr.remarked. No statement is proved here. -/
import Derived.Test.YtnckbdkofbhilaaGreatDoorAddrW
import Derived.Test.YtnckbdkofbhilaaGreatDoorAddrU
import Derived.Deep.AppendLies
namespace Go.Proofs.YtnckbdkofbhilaaGreatDoor
open Go.RowKit
set_option linter.unusedVariables false
set_option linter.unusedSimpArgs false
set_option maxRecDepth 100000
/-- blocks of other types than uint8 are as they were -/
def Kept8 (w w' : World) : Prop := ∀ (b : Nat) (cs : Array Value) (t : TypeId) (fr : Nat × Nat), t ≠ 5 → w.heap[b]? = some (.cells cs t fr) → w'.heap[b]? = w.heap[b]?
theorem Kept8.alloc {w w' : World} (o : Obj) (h : Kept8 (w.alloc o) w') : Kept8 w w' := fun b cs t fr ht hb => by
  have hlt := lt_of_block hb
  have e := Below.heap_alloc w o b hlt
  exact (h b cs t fr ht (e.trans hb)).trans e
theorem Kept8.box {w w' : World} (h : Kept8 w w') {b : Nat} {t : TypeId} {v : Value} (hb : Box w b t v) (ht : t ≠ 5) : Box w' b t v := (h b _ t _ ht hb).trans hb
theorem Buf.ne_cells {B b : Nat} {v : Value} {l : List UInt8} {W0 w : World} {cs : Array Value} {t : TypeId} {fr : Nat × Nat} (h : Buf B v l W0 w) (hb : w.heap[b]? = some (.cells cs t fr)) (ht : t ≠ 5) : v.ownBlock ≠ some b := by
  rcases h.1.2 with ⟨rfl, _⟩ | ⟨g, cap, cur, rfl, _, hh, _⟩
  · simp [Value.ownBlock]
  · intro he
    have e : g = b := by simpa [Value.ownBlock] using he
    subst e
    rw [hh] at hb
    injection hb with hb
    injection hb with _ e
    exact ht e.symm
theorem Buf.setCells {B b : Nat} {v : Value} {l : List UInt8} {W0 w : World} {cs : Array Value} {t : TypeId} {fr : Nat × Nat} (h : Buf B v l W0 w) (hb : w.heap[b]? = some (.cells cs t fr)) (ht : t ≠ 5) (hB : B ≤ b) (i : Nat) (x : Value) : Buf B v l W0 (w.setCell ⟨b, i, none⟩ x) :=
  ⟨ownsRow_setCell_other h.1 (h.ne_cells hb ht) x, h.2.1.setCell hB x, by simpa [World.setCell] using h.2.2⟩
theorem kept8_own {B : Nat} {v : Value} {l : List UInt8} {W0 w w' : World} (h : Buf B v l W0 w) (hg : w.grownBy w' v.ownBlock) : Kept8 w w' :=
  fun b cs t fr ht hx => hg.block b (lt_of_block hx) (fun e => h.ne_cells hx ht e.symm)
/-- two rows lie in two blocks -/
def Sep (v1 v2 : Value) : Prop := ∀ b, v1.ownBlock = some b → v2.ownBlock ≠ some b
theorem Sep.symm {v1 v2 : Value} (h : Sep v1 v2) : Sep v2 v1 := fun b h2 h1 => h b h1 h2
/-- append(buf, c), with another row kept apart -/
theorem wpList_two_byte {ops : Array Oper} {rest : List Oper} {o : Oper} {a : Act} {Q : Exit → Act → World → Prop} (hgd : o.guard = none) (s x : Operand)
    (ho : o.op = .call { callee := .builtin .append, args := #[s, x], argTypes := #[45, 45] })
    (B : Nat) (v v2 : Value) (l l2 : List UInt8) (hs : a.eval s = v) (W0 w0 : World) (c : UInt8) (hb : Buf B v l W0 w0) (hb2 : Buf B v2 l2 W0 w0) (hsep : Sep v v2)
    (hx : a.eval x = .slice (some ⟨w0.heap.size, 0, none⟩) 1 1) (hlen : l.length + 1 ≤ 140737488355328)
    (h : ∀ v' w', Buf B v' (l ++ [c]) W0 w' → Buf B v2 l2 W0 w' → Sep v' v2 → Kept8 w0 w' → wpList Tryz.prog ops Q rest (a.put o.dst v') w') : wpList Tryz.prog ops Q (o :: rest) a (w0.alloc (.cells #[.int .u8 c.toNat] 5)) := by
  obtain ⟨i0, hi, hz0, hz1, hz2⟩ := info_parts info_u8
  have hb' := hb.alloc (.cells #[.int .u8 c.toNat] 5)
  have hb2' := hb2.alloc (.cells #[.int .u8 c.toNat] 5)
  refine wpList_append_lies _ hgd s x 45 ho B 5 i0 (.int .u8 0) 1 1 Tryz.underlying45 hi hz0 hz1 hz2 rfl (by decide) v l.length (cellsOf l) hs hb'.1 ⟨w0.heap.size, 0, none⟩ 1 1 [.int .u8 c.toNat] hx rfl ?_ ?_ (by decide) (by unfold maxLen; omega) (by omega) hb'.2.2 _ rfl ?_
  · intro j u hj
    match j, hj with
    | 0, hj => simp at hj; subst hj; simp [Addr.add]
    | (j + 1), hj => simp at hj
  · intro u hu; simp at hu; subst hu; rfl
  · intro g cap w' ho' hg hat hlt
    have n1 : Buf B (.slice (some ⟨g, 0, none⟩) (l.length + 1) cap) (l ++ [c]) W0 w' := hb'.grown (l' := l ++ [c]) (by simpa [cellsOf] using ho') hg
    refine h _ w' n1 ⟨hb2'.1.kept hg ?_, n1.2.1, n1.2.2⟩ ?_ ((kept8_own hb' hg).alloc _)
    · cases e : v2.ownBlock with
      | none => exact .inl rfl
      | some b => exact .inr (fun e2 => hsep b e2.symm e)
    · intro b hbk
      have e : g = b := by simpa [Value.ownBlock] using hbk
      subst e
      rcases hat with hat | hat
      · exact hsep g hat
      · intro e2
        have := (hb2'.1.lt g e2).2
        omega
/-! ### the function -/
abbrev RmSt := Nat × List UInt8 × List UInt8
def rmStep (st : RmSt) (c : UInt8) (pl : Nat) : RmSt :=
  if pl = 3 then (st.1 + 1, st.2)
  else if pl ≠ 2 then (st.1, st.2.1 ++ [c], st.2.2)
  else if st.1 = 1 then (st.1, st.2.1, st.2.2 ++ [c])
  else st
def rmAt (s : ByteArray) : Nat → RmSt
  | 0 => (0, [], [])
  | k + 1 => if h : k < s.size then rmStep (rmAt s k) s[k] (placeAt s k h) else rmAt s k
theorem rmAt_succ (s : ByteArray) (k : Nat) (h : k < s.size) : rmAt s (k + 1) = rmStep (rmAt s k) s[k] (placeAt s k h) := by
  show (if h : k < s.size then _ else _) = _
  rw [dif_pos h]
theorem rmStep_bd (st : RmSt) (c : UInt8) (pl k : Nat) (h1 : st.1 ≤ k) (h2 : st.2.1.length ≤ k) (h3 : st.2.2.length ≤ k) : (rmStep st c pl).1 ≤ k + 1 ∧ (rmStep st c pl).2.1.length ≤ k + 1 ∧ (rmStep st c pl).2.2.length ≤ k + 1 := by
  unfold rmStep
  split
  · exact ⟨Nat.succ_le_succ h1, Nat.le_succ_of_le h2, Nat.le_succ_of_le h3⟩
  · split
    · exact ⟨Nat.le_succ_of_le h1, by simp; exact h2, Nat.le_succ_of_le h3⟩
    · split
      · exact ⟨Nat.le_succ_of_le h1, Nat.le_succ_of_le h2, by simp; exact h3⟩
      · exact ⟨Nat.le_succ_of_le h1, Nat.le_succ_of_le h2, Nat.le_succ_of_le h3⟩
theorem rmAt_bd (s : ByteArray) (k : Nat) : (rmAt s k).1 ≤ k ∧ (rmAt s k).2.1.length ≤ k ∧ (rmAt s k).2.2.length ≤ k := by
  induction k with
  | zero => exact ⟨Nat.le_refl _, Nat.le_refl _, Nat.le_refl _⟩
  | succ k ih =>
    by_cases hk : k < s.size
    · rw [rmAt_succ s k hk]; exact rmStep_bd _ _ _ k ih.1 ih.2.1 ih.2.2
    · have e : rmAt s (k + 1) = rmAt s k := by show (if h : k < s.size then _ else _) = _; rw [dif_neg hk]
      rw [e]; exact ⟨Nat.le_succ_of_le ih.1, Nat.le_succ_of_le ih.2.1, Nat.le_succ_of_le ih.2.2⟩
/-- remarked's variables in memory: signs, rest, said -/
structure RmAt (bg br bs B : Nat) (W0 : World) (st : RmSt) (w : World) : Prop where
  sg : Box w bg 3 (.int .i64 st.1)
  rows : ∃ v1 v2, Box w br 45 v1 ∧ Box w bs 45 v2 ∧ Buf B v1 st.2.1 W0 w ∧ Buf B v2 st.2.2 W0 w ∧ Sep v1 v2
theorem RmAt.drew {bg br bs B : Nat} {W0 : World} {st : RmSt} {w : World} (h : RmAt bg br bs B W0 st w) : RmAt bg br bs B W0 st w.drew := by
  obtain ⟨v1, v2, r1, r2, r3, r4, r5⟩ := h.rows
  exact ⟨h.sg.drew, v1, v2, r1.drew, r2.drew, r3.drew, r4.drew, r5⟩
theorem RmAt.alloc {bg br bs B : Nat} {W0 : World} {st : RmSt} {w : World} (h : RmAt bg br bs B W0 st w) (o : Obj) : RmAt bg br bs B W0 st (w.alloc o) := by
  obtain ⟨v1, v2, r1, r2, r3, r4, r5⟩ := h.rows
  exact ⟨h.sg.alloc o, v1, v2, r1.alloc o, r2.alloc o, r3.alloc o, r4.alloc o, r5⟩
theorem RmAt.setOther {bg br bs B m : Nat} {W0 : World} {st : RmSt} {w : World} {cs : Array Value} {T : TypeId} {fr : Nat × Nat} (h : RmAt bg br bs B W0 st w) (hm : w.heap[m]? = some (.cells cs T fr)) (hT : T ≠ 5) (n1 : bg ≠ m) (n2 : br ≠ m) (n3 : bs ≠ m) (hB : B ≤ m) (i : Nat) (x : Value) : RmAt bg br bs B W0 st (w.setCell ⟨m, i, none⟩ x) := by
  obtain ⟨v1, v2, r1, r2, r3, r4, r5⟩ := h.rows
  exact ⟨h.sg.far n1 _, v1, v2, r1.far n2 _, r2.far n3 _, r3.setCells hm hT hB i _, r4.setCells hm hT hB i _, r5⟩
theorem RmAt.sign {bg br bs B : Nat} {W0 : World} {sg : Nat} {rest said : List UInt8} {w : World} (h : RmAt bg br bs B W0 (sg, rest, said) w) (hB : B ≤ bg) (n : Nat) : RmAt bg br bs B W0 (n, rest, said) (w.setCell ⟨bg, 0, none⟩ (.int .i64 (n : Int))) := by
  obtain ⟨v1, v2, r1, r2, r3, r4, r5⟩ := h.rows
  exact ⟨h.sg.set _, v1, v2, r1.far (a := ⟨bg, 0, none⟩) (r1.ne h.sg (by decide)) _, r2.far (a := ⟨bg, 0, none⟩) (r2.ne h.sg (by decide)) _, r3.setCells h.sg (by decide) hB 0 _, r4.setCells h.sg (by decide) hB 0 _, r5⟩
theorem RmAt.more {bg br bs B : Nat} {W0 : World} {st : RmSt} {w w2 : World} {v1 v2 : Value} {rest said : List UInt8} (h : RmAt bg br bs B W0 st w) (hk : Kept8 w w2) (hne : br ≠ bs) (hBr : B ≤ br) (hu : Box w bs 45 v2) (h1 : Buf B v1 rest W0 w2) (h2 : Buf B v2 said W0 w2) (hs : Sep v1 v2) :
    RmAt bg br bs B W0 (st.1, rest, said) (w2.setCell ⟨br, 0, none⟩ v1) := by
  obtain ⟨x1, x2, r1, r2, _⟩ := h.rows
  have b1 := hk.box r1 (by decide)
  have b2 := hk.box hu (by decide)
  have g2 := hk.box h.sg (by decide)
  exact ⟨g2.far (a := ⟨br, 0, none⟩) (g2.ne b1 (by decide)) _, v1, v2, b1.set _, b2.far (a := ⟨br, 0, none⟩) (Ne.symm hne) _, h1.setCells b1 (by decide) hBr 0 _, h2.setCells b1 (by decide) hBr 0 _, hs⟩
theorem RmAt.swap {bg br bs B : Nat} {W0 : World} {sg : Nat} {rest said : List UInt8} {w : World} (h : RmAt bg br bs B W0 (sg, rest, said) w) : RmAt bg bs br B W0 (sg, said, rest) w := by
  obtain ⟨v1, v2, r1, r2, r3, r4, r5⟩ := h.rows
  exact ⟨h.sg, v2, v1, r2, r1, r4, r3, r5.symm⟩
set_option maxHeartbeats 1600000 in
theorem rm_step (k : Nat) (c : UInt8) (pl : Nat) (st : RmSt) (bg br bs B m : Nat) (W0 w : World) (cs : Array Value) (T : TypeId) (fr : Nat × Nat) (h : RmAt bg br bs B W0 st w) (hne : br ≠ bs)
    (hBg : B ≤ bg) (hBr : B ≤ br) (hBs : B ≤ bs) (hm : w.heap[m]? = some (.cells cs T fr)) (hT : T ≠ 5) (n1 : m ≠ bg) (n2 : m ≠ br) (n3 : m ≠ bs) (hk : k ≤ 1048576) (b1 : st.1 ≤ k) (b2 : st.2.1.length ≤ k) (b3 : st.2.2.length ≤ k) :
    Calls Tryz.prog 104 #[.int .i64 k, .int .u8 c.toNat, .int .i64 pl, .pointer (some ⟨bg, 0, none⟩), .pointer (some ⟨br, 0, none⟩), .pointer (some ⟨bs, 0, none⟩)] w fun e w' => e = .returned (.tuple #[]) ∧
      RmAt bg br bs B W0 (rmStep st c pl) w' ∧ w'.heap[m]? = w.heap[m]? := by
  obtain ⟨sg, rest, said⟩ := st
  obtain ⟨v1, v2, r1, r2, r3, r4, r5⟩ := h.rows
  have H := hide h
  have HM := hide hm
  have c0 : w.cell? ⟨bg, 0, none⟩ = some (.int .i64 (sg : Int)) := h.sg.cell
  have f0 := h.sg.free
  have c1 := r1.cell
  have f1 := r1.free
  have c2 := r2.cell
  have f2 := r2.free
  obtain ⟨A1, z1, rfl⟩ := r3.slice_len
  obtain ⟨A2, z2, rfl⟩ := r4.slice_len
  have R1 : Hid (Box w br 45 (.slice A1 rest.length z1)) := hide r1
  have R2 : Hid (Box w bs 45 (.slice A2 said.length z2)) := hide r2
  have R3 : Hid (Buf B (.slice A1 rest.length z1) rest W0 w) := hide r3
  have R4 : Hid (Buf B (.slice A2 said.length z2) said W0 w) := hide r4
  have R5 : Hid (Sep (.slice A1 rest.length z1) (.slice A2 said.length z2)) := hide r5
  have q0 : IntKind.i64.wrap ((sg : Int) + 1) = (sg : Int) + 1 := IntWalk.i64_in _ (by have : sg ≤ k := b1; omega)
  have HL1 : Hid (rest.length + 1 ≤ 140737488355328) := hide (by have : rest.length ≤ k := b2; omega)
  have HL2 : Hid (said.length + 1 ≤ 140737488355328) := hide (by have : said.length ≤ k := b3; omega)
  have HNE := hide hne
  have HN1 : Hid ((rest ++ [c]).length = rest.length + 1) := hide (by rw [List.length_append]; rfl)
  have HN2 : Hid ((said ++ [c]).length = said.length + 1) := hide (by rw [List.length_append]; rfl)
  clear h r1 r2 r3 r4 r5 hm hk b1 b2 b3 hne
  by_cases p3 : pl = 3
  · subst p3
    have HS : Hid (rmStep (sg, rest, said) c 3 = (sg + 1, rest, said)) := hide (by unfold rmStep; rw [if_pos rfl])
    go_enter Tryz.func104, Tryz.ntmps104
    go_wp2_with fail
    go_end0
    exact ⟨rfl, by rw [HS.out]; exact H.out.sign hBg (sg + 1), Below.heap_setCell _ _ _ m n1⟩
  · have t3 : ((pl : Int) == 3) = false := by rw [beq_eq_false_iff_ne]; omega
    by_cases p2 : pl = 2
    · subst p2
      by_cases e1 : sg = 1
      · subst e1
        have HS : Hid (rmStep (1, rest, said) c 2 = (1, rest, said ++ [c])) := hide (by unfold rmStep; rw [if_neg (by decide), if_neg (by decide), if_pos rfl])
        clear p3 t3
        go_enter Tryz.func104, Tryz.ntmps104
        go_wp2_with (at_builtin; go_must (refine wpList_two_byte rfl _ _ rfl B (.slice A2 said.length z2) (.slice A1 rest.length z1) said rest rfl W0 w c R4.out R3.out R5.out.symm rfl HL2.out ?_; intro v4 w4 hb4 hb5 hs4 hk4; obtain ⟨A4, z4, rfl⟩ := hb4.slice_len; rw [HN2.out] at hb4 hs4 ⊢; have hf4 := (hk4.box R2.out (by decide)).free; have hc4 := (hk4.box R2.out (by decide)).cell; have HB4 := hide hb4; have HB5 := hide hb5; have HS4 := hide hs4; have HK4 := hide hk4; clear hb4 hb5 hs4 hk4))
        go_end0
        exact ⟨rfl, by rw [HS.out]; exact (H.out.swap.more HK4.out (Ne.symm HNE.out) hBs R1.out HB4.out HB5.out HS4.out).swap, (Below.heap_setCell _ _ _ m n3).trans (HK4.out m cs T fr hT HM.out)⟩
      · have HS : Hid (rmStep (sg, rest, said) c 2 = (sg, rest, said)) := hide (by unfold rmStep; rw [if_neg (by decide), if_neg (by decide), if_neg e1])
        have t1 : ((sg : Int) == 1) = false := by rw [beq_eq_false_iff_ne]; omega
        clear p3 t3 e1
        go_enter Tryz.func104, Tryz.ntmps104
        go_wp2_with fail
        go_end0
        exact ⟨rfl, by rw [HS.out]; exact H.out, rfl⟩
    · have t2 : ((pl : Int) != 2) = true := by rw [bne_iff_ne]; omega
      have HS : Hid (rmStep (sg, rest, said) c pl = (sg, rest ++ [c], said)) := hide (by unfold rmStep; rw [if_neg p3, if_pos p2])
      clear p3 p2
      go_enter Tryz.func104, Tryz.ntmps104
      go_wp2_with (at_builtin; go_must (refine wpList_two_byte rfl _ _ rfl B (.slice A1 rest.length z1) (.slice A2 said.length z2) rest said rfl W0 w c R3.out R4.out R5.out rfl HL1.out ?_; intro v4 w4 hb4 hb5 hs4 hk4; obtain ⟨A4, z4, rfl⟩ := hb4.slice_len; rw [HN1.out] at hb4 hs4 ⊢; have hf4 := (hk4.box R1.out (by decide)).free; have hc4 := (hk4.box R1.out (by decide)).cell; have HB4 := hide hb4; have HB5 := hide hb5; have HS4 := hide hs4; have HK4 := hide hk4; clear hb4 hb5 hs4 hk4))
      go_end0
      exact ⟨rfl, by rw [HS.out]; exact H.out.more HK4.out HNE.out hBr R2.out HB4.out HB5.out HS4.out, (Below.heap_setCell _ _ _ m n2).trans (HK4.out m cs T fr hT HM.out)⟩
end Go.Proofs.YtnckbdkofbhilaaGreatDoor
