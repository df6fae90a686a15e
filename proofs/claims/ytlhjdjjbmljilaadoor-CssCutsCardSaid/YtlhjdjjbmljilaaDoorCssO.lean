/- WALKS of css's opened signs: open, close, innermost, readOutside, read. No statement is proved here. Own work of the verifier. -/
import Derived.Test.YtlhjdjjbmljilaaDoorCssP
import Derived.Test.YtlhjdjjbmljilaaDoorStrs
namespace Go.Proofs.YtlhjdjjbmljilaaDoor
open Go.RowKit
set_option linter.unusedVariables false
set_option linter.unusedSimpArgs false
set_option maxRecDepth 100000

/-- rows of texts stay -/
def RowsS (w w' : World) : Prop := ∀ (g : Nat) (cs : Array Value) (fr : Nat × Nat), w.heap[g]? = some (.cells cs 9 fr) → w'.heap[g]? = w.heap[g]?
theorem RowsS.refl (w : World) : RowsS w w := fun _ _ _ _ => rfl
theorem RowsS.trans {w w1 w2 : World} (h : RowsS w w1) (k : RowsS w1 w2) : RowsS w w2 := fun g cs fr hx => (k g cs fr ((h g cs fr hx).trans hx)).trans (h g cs fr hx)
theorem SBuf.rows {B : Nat} {v : Value} {l : List ByteArray} {W0 w w' : World} (h : SBuf B v l W0 w) (hr : RowsS w w') (hb : Below B W0 w') (hz : B ≤ w'.heap.size) : SBuf B v l W0 w' := by
  refine ⟨⟨h.1.1, ?_⟩, hb, hz⟩
  rcases h.1.2 with ⟨rfl, h0⟩ | ⟨g, cap, cur, rfl, h1, h2, h3⟩
  · exact .inl ⟨rfl, h0⟩
  · exact .inr ⟨g, cap, cur, rfl, h1, (hr g _ _ h2).trans h2, h3⟩
/-- blocks that are no rows of texts stay -/
def OthersS (w w' : World) : Prop := ∀ (b : Nat) (cs : Array Value) (t : TypeId) (fr : Nat × Nat), t ≠ 9 → w.heap[b]? = some (.cells cs t fr) → w'.heap[b]? = w.heap[b]?
theorem OthersS.alloc {w w' : World} (o : Obj) (h : OthersS (w.alloc o) w') : OthersS w w' := fun b cs t fr ht hb => by
  have hlt := lt_of_block hb
  have e := Below.heap_alloc w o b hlt
  exact (h b cs t fr ht (e.trans hb)).trans e
theorem OthersS.box {w w' : World} (h : OthersS w w') {b : Nat} {t : TypeId} {v : Value} (hb : Box w b t v) (ht : t ≠ 9) : Box w' b t v := (h b _ t _ ht hb).trans hb
theorem sbuf_ne {B b : Nat} {v : Value} {l : List ByteArray} {W0 w : World} {cs : Array Value} {t : TypeId} {fr : Nat × Nat} (h : SBuf B v l W0 w) (hb : w.heap[b]? = some (.cells cs t fr)) (ht : t ≠ 9) : v.ownBlock ≠ some b := by
  rcases h.1.2 with ⟨rfl, _⟩ | ⟨g, cap, cur, rfl, _, hh, _⟩
  · simp [Value.ownBlock]
  · intro he
    have e : g = b := by simpa [Value.ownBlock] using he
    subst e
    rw [hh] at hb
    injection hb with hb
    injection hb with _ e
    exact ht e.symm
theorem others_own {B : Nat} {v : Value} {l : List ByteArray} {W0 w w' : World} (h : SBuf B v l W0 w) (hg : w.grownBy w' v.ownBlock) : OthersS w w' :=
  fun b cs t fr ht hx => hg.block b (lt_of_block hx) (fun e => sbuf_ne h hx ht e.symm)
/-- append(l, s), with the blocks of other types kept -/
theorem wpList_strs_o {ops : Array Oper} {rest : List Oper} {o : Oper} {a : Act} {Q : Exit → Act → World → Prop} (hgd : o.guard = none) (s x : Operand)
    (ho : o.op = .call { callee := .builtin .append, args := #[s, x], argTypes := #[45, 45] })
    (B : Nat) (v : Value) (l : List ByteArray) (hs : a.eval s = v) (W0 w0 : World) (c : ByteArray) (hb : SBuf B v l W0 w0)
    (hx : a.eval x = .slice (some ⟨w0.heap.size, 0, none⟩) 1 1) (hlen : l.length + 1 ≤ 8796093022208)
    (h : ∀ v' w', SBuf B v' (l ++ [c]) W0 w' → OthersS w0 w' → w0.heap.size ≤ w'.heap.size → wpList Tryd.prog ops Q rest (a.put o.dst v') w') : wpList Tryd.prog ops Q (o :: rest) a (w0.alloc (.cells #[.string c] 9)) := by
  obtain ⟨i0, hi, hz0, hz1, hz2⟩ := info_parts info_str
  have hb' := hb.alloc (.cells #[.string c] 9)
  refine wpList_append_own _ hgd s x 45 ho B 9 i0 (.string ByteArray.empty) 1 16 Tryd.underlying45 hi hz0 hz1 hz2 rfl (by decide) v l.length (strVals l) hs hb'.1 ⟨w0.heap.size, 0, none⟩ 1 1 [.string c] hx rfl ?_ ?_ (by unfold maxLen; omega) (by omega) hb'.2.2 ?_
  · intro j u hj
    match j, hj with
    | 0, hj => simp at hj; subst hj; simp [Addr.add]
    | (j + 1), hj => simp at hj
  · intro u hu; simp at hu; subst hu; rfl
  · intro v' w' ho' hg _
    refine h v' w' (hb'.grown (l' := l ++ [c]) (by simpa [strVals] using ho') hg) ((others_own hb' hg).alloc _) ?_
    have := hg.size
    rw [World.size_alloc] at this
    omega

/-! ### the signs that are open -/
def OAt (B b : Nat) (st : List UInt8) (W0 w : World) : Prop := ∃ v, Box w b 76 v ∧ Buf B v st W0 w ∧ B ≤ b
theorem OAt.below {B b : Nat} {st : List UInt8} {W0 w : World} (h : OAt B b st W0 w) : Below B W0 w := by obtain ⟨v, _, h2, _⟩ := h; exact h2.2.1
theorem OAt.size {B b : Nat} {st : List UInt8} {W0 w : World} (h : OAt B b st W0 w) : B ≤ w.heap.size := by obtain ⟨v, _, h2, _⟩ := h; exact h2.2.2
theorem OAt.others {B b : Nat} {st : List UInt8} {W0 w w' : World} (h : OAt B b st W0 w) (hk : OthersS w w') (hb : Below B W0 w') (hz : B ≤ w'.heap.size) : OAt B b st W0 w' := by
  obtain ⟨v, h1, h2, h3⟩ := h
  refine ⟨v, hk.box h1 (by decide), ⟨⟨h2.1.1, ?_⟩, hb, hz⟩, h3⟩
  rcases h2.1.2 with ⟨rfl, h0⟩ | ⟨g, cap, cur, rfl, k1, k2, k3⟩
  · exact .inl ⟨rfl, h0⟩
  · exact .inr ⟨g, cap, cur, rfl, k1, (hk g _ _ _ (by decide) k2).trans k2, k3⟩
theorem OAt.drewN {B b : Nat} {st : List UInt8} {W0 w : World} (h : OAt B b st W0 w) (n : Nat) : OAt B b st W0 (w.drewN n) := by
  obtain ⟨v, h1, h2, h3⟩ := h
  exact ⟨v, h1.drewN n, h2.drewN n, h3⟩
theorem rowsS_drewN (w : World) (n : Nat) : RowsS w (w.drewN n) := fun _ _ _ _ => rfl
theorem rowsS_set {w w1 : World} (h : RowsS w w1) {b : Nat} {t : TypeId} {v : Value} (hb : Box w1 b t v) (ht : t ≠ 9) (x : Value) : RowsS w (w1.setCell ⟨b, 0, none⟩ x) := fun g cs fr hx => by
  have e1 := h g cs fr hx
  have hne : g ≠ b := by
    rintro rfl
    have e2 := e1.trans hx
    unfold Box at hb
    rw [hb] at e2
    injection e2 with e2
    injection e2 with _ e2
    exact ht e2
  exact (Below.heap_setCell w1 ⟨b, 0, none⟩ x g hne).trans e1
theorem rowsS_alloc (w : World) (o : Obj) : RowsS w (w.alloc o) := fun g cs fr hx => Below.heap_alloc w o g (lt_of_block hx)
theorem rowsS_own {B : Nat} {v : Value} {l : List UInt8} {W0 w w' : World} (h : Buf B v l W0 w) (hg : w.grownBy w' v.ownBlock) : RowsS w w' := fun g cs fr hx =>
  hg.block g (lt_of_block hx) (fun e => by
    rcases h.1.2 with ⟨rfl, _⟩ | ⟨g', cap, cur, rfl, _, hh, _⟩
    · simp [Value.ownBlock] at e
    · have e' : g = g' := by simpa [Value.ownBlock] using e
      subst e'
      rw [hh] at hx
      injection hx with hx
      injection hx with _ e2
      exact absurd e2 (by decide))
/-- append(*o, c) -/
theorem wpList_op_byte {ops : Array Oper} {rest : List Oper} {o : Oper} {a : Act} {Q : Exit → Act → World → Prop} (hgd : o.guard = none) (s x : Operand)
    (ho : o.op = .call { callee := .builtin .append, args := #[s, x], argTypes := #[76, 76] })
    (B : Nat) (v : Value) (l : List UInt8) (hs : a.eval s = v) (W0 w0 : World) (c : UInt8) (hb : Buf B v l W0 w0)
    (hx : a.eval x = .slice (some ⟨w0.heap.size, 0, none⟩) 1 1) (hlen : l.length + 1 ≤ 140737488355328)
    (h : ∀ v' w', Buf B v' (l ++ [c]) W0 w' → Kept w0 w' → RowsS w0 w' → w0.heap.size ≤ w'.heap.size → wpList Tryd.prog ops Q rest (a.put o.dst v') w') : wpList Tryd.prog ops Q (o :: rest) a (w0.alloc (.cells #[.int .u8 c.toNat] 5)) := by
  obtain ⟨i0, hi, hz0, hz1, hz2⟩ := info_parts info_u8
  have hb' := hb.alloc (.cells #[.int .u8 c.toNat] 5)
  refine wpList_append_own _ hgd s x 76 ho B 5 i0 (.int .u8 0) 1 1 Tryd.underlying76 hi hz0 hz1 hz2 rfl (by decide) v l.length (cellsOf l) hs hb'.1 ⟨w0.heap.size, 0, none⟩ 1 1 [.int .u8 c.toNat] hx rfl ?_ ?_ (by unfold maxLen; omega) (by omega) hb'.2.2 ?_
  · intro j u hj
    match j, hj with
    | 0, hj => simp at hj; subst hj; simp [Addr.add]
    | (j + 1), hj => simp at hj
  · intro u hu; simp at hu; subst hu; rfl
  · intro v' w' ho' hg _
    refine h v' w' (hb'.grown (l' := l ++ [c]) (by simpa [cellsOf] using ho') hg) ((kept_own hb' hg).alloc _) ((rowsS_alloc _ _).trans (rowsS_own hb' hg)) ?_
    have := hg.size
    rw [World.size_alloc] at this
    omega
set_option maxHeartbeats 1000000 in
theorem oOpen_any (B b : Nat) (st : List UInt8) (c : UInt8) (W0 w : World) (h : OAt B b st W0 w) (hl : st.length ≤ 1048576) :
    Calls Tryd.prog 82 #[.pointer (some ⟨b, 0, none⟩), .int .u8 c.toNat] w fun e w' => e = .returned (.tuple #[]) ∧ OAt B b (st ++ [c]) W0 w' ∧ RowsS w w' := by
  obtain ⟨v, hbx, hbuf, hB⟩ := h
  have hc := hbx.cell
  have HBX := hide hbx
  have HBUF := hide hbuf
  clear hbuf hbx
  go_enter Tryd.func82, Tryd.ntmps82
  go_wp2_with (refine wpList_op_byte rfl _ _ rfl B v st rfl W0 w c HBUF.out rfl (by omega) ?_; intro v1 w1 hb1 hk1 hr1 hz1; obtain ⟨A1, cc1, hv1⟩ := hb1.slice_len; rw [List.length_append, List.length_singleton] at hv1; subst hv1; have HB1 := hide hb1; have HX1 := hide (hk1 b _ _ (by decide) HBX.out); have HR1 := hide hr1; have hc1 := HX1.out.cell; have hf1 := HX1.out.free; clear hb1 hk1 hr1)
  go_end0
  exact ⟨rfl, ⟨_, HX1.out.set _, HB1.out.setBox HX1.out (by decide) hB _, hB⟩, rowsS_set HR1.out HX1.out (by decide) _⟩
theorem Buf.form2 {B : Nat} {v : Value} {l : List UInt8} {W0 w : World} (h : Buf B v l W0 w) : (v = .slice none 0 0 ∧ l = []) ∨ ∃ g cap, v = .slice (some ⟨g, 0, none⟩) l.length cap ∧ l.length ≤ cap ∧ cap ≤ maxLen := by
  rcases h.1.2 with ⟨rfl, h0⟩ | ⟨g, cap, cur, rfl, hg, hh, hc, hm, _⟩
  · exact .inl ⟨rfl, List.eq_nil_of_length_eq_zero h0⟩
  · exact .inr ⟨g, cap, rfl, hc, hm⟩
/-- the innermost one; 0: none -/
def lastO (st : List UInt8) : UInt8 := st.getLast?.getD 0
theorem lastO_snoc (st : List UInt8) (c : UInt8) : lastO (st ++ [c]) = c := by simp [lastO]
set_option maxHeartbeats 1000000 in
theorem oInner_any (B b : Nat) (st : List UInt8) (W0 w : World) (h : OAt B b st W0 w) :
    Calls Tryd.prog 80 #[.pointer (some ⟨b, 0, none⟩)] w fun e w' => e = .returned (.int .u8 (lastO st).toNat) ∧ ∃ n, w' = w.drewN n := by
  obtain ⟨v, hbx, hbuf, hB⟩ := h
  have hc := hbx.cell
  rcases List.eq_nil_or_concat st with rfl | ⟨r, c, rfl⟩
  · obtain ⟨A, cc, rfl⟩ := hbuf.slice_len
    clear hbuf hbx
    go_enter Tryd.func80, Tryd.ntmps80
    go_wp2_with fail
    go_ret
    exact ⟨rfl, 0, rfl⟩
  · rw [List.concat_eq_append] at hbuf ⊢
    have HL : Hid (lastO (r ++ [c]) = c) := hide (lastO_snoc r c)
    obtain ⟨g, cap, rfl, hc1, hc2, hc3, hc4⟩ := hbuf.form (by simp)
    have hcell := hbuf.cellAt r.length (by simp)
    rw [List.getElem_concat_length rfl] at hcell
    unfold maxLen at hc2
    obtain ⟨n, hn⟩ : ∃ n, n = r.length := ⟨_, rfl⟩
    have hlen : (r ++ [c]).length = n + 1 := by rw [hn]; simp
    rw [← hn] at hcell
    rw [hlen] at hc hc1
    have q1 : IntKind.i64.wrap (((n + 1 : Nat) : Int) - 1) = n := by rw [IntWalk.i64_in _ (by omega)]; omega
    have q2 : IntKind.i64.wrap ((n : Int) + 1 - 1) = n := by rw [IntWalk.i64_in _ (by omega)]; omega
    have q3 : (n : Int) < (n : Int) + 1 := by omega
    have t0 : (((n : Int) + 1) == 0) = false := beq_eq_false_iff_ne.2 (by omega)
    clear hbuf hbx hn hlen
    go_enter Tryd.func80, Tryd.ntmps80
    go_wp2_with fail
    go_quiet (fail)
    all_goals
      try go_wp2_with fail
      go_ret
      exact ⟨by rw [HL.out]; rfl, _, rfl⟩
set_option maxHeartbeats 1000000 in
theorem oClose_any (B b : Nat) (st : List UInt8) (W0 w : World) (h : OAt B b st W0 w) :
    Calls Tryd.prog 81 #[.pointer (some ⟨b, 0, none⟩)] w fun e w' => e = .returned (.tuple #[]) ∧ OAt B b st.dropLast W0 w' ∧ RowsS w w' := by
  obtain ⟨v, hbx, hbuf, hB⟩ := h
  have hc := hbx.cell
  have hf := hbx.free
  have HBX := hide hbx
  have HBUF := hide hbuf
  rcases List.eq_nil_or_concat st with rfl | ⟨r, c, rfl⟩
  · obtain ⟨A, cc, rfl⟩ := hbuf.slice_len
    clear hbuf hbx
    have hdl : ([] : List UInt8).dropLast = [] := rfl
    rw [hdl]
    clear hdl
    go_enter Tryd.func81, Tryd.ntmps81
    go_wp2_with fail
    go_region
    all_goals
      try go_wp2_with fail
      go_end0
      exact ⟨rfl, ⟨_, (HBX.out.drewN _).set _, (HBUF.out.drewN _).setBox (HBX.out.drewN _) (by decide) hB _, hB⟩, rowsS_set (rowsS_drewN w _) (HBX.out.drewN _) (by decide) _⟩
  · rw [List.concat_eq_append] at hbuf HBUF ⊢
    have HD : Hid ((r ++ [c]).dropLast = r) := hide (List.dropLast_concat)
    obtain ⟨g, cap, rfl, hc1, hc2, hc3, hc4⟩ := hbuf.form (by simp)
    have htk := hbuf.take r.length (by simp)
    rw [List.take_left] at htk
    have HTK := hide htk
    unfold maxLen at hc2
    obtain ⟨n, hn⟩ : ∃ n, n = r.length := ⟨_, rfl⟩
    have hlen : (r ++ [c]).length = n + 1 := by rw [hn]; simp
    rw [← hn] at HTK
    rw [hlen] at hc hc1 HBX
    have q1 : IntKind.i64.wrap (((n + 1 : Nat) : Int) - 1) = n := by rw [IntWalk.i64_in _ (by omega)]; omega
    have q2 : IntKind.i64.wrap ((n : Int) + 1 - 1) = n := by rw [IntWalk.i64_in _ (by omega)]; omega
    have q3 : (n : Int) ≤ (cap : Int) := by omega
    have q4 : ¬ (n : Int) < 0 := by omega
    have hne : ¬ cap = n := by omega
    clear hbuf hbx hn hlen htk HBUF
    rw [HD.out]
    go_enter Tryd.func81, Tryd.ntmps81
    go_wp2_with fail
    go_region
    all_goals
      try go_wp2_with fail
      go_end0
      exact ⟨rfl, ⟨_, (HBX.out.drewN _).set _, (HTK.out.drewN _).setBox (HBX.out.drewN _) (by decide) hB _, hB⟩, rowsS_set (rowsS_drewN w _) (HBX.out.drewN _) (by decide) _⟩
/-- readOutside, on the signs that are open -/
def roL (st : List UInt8) (c : UInt8) : List UInt8 × Bool :=
  if c = 34 ∨ c = 39 ∨ c = 40 then (st ++ [c], false) else if c = 41 then (st.dropLast, false) else if c = 59 then (st, st.isEmpty) else (st, false)
set_option maxHeartbeats 2000000 in
theorem oOutside_any (B b : Nat) (st : List UInt8) (c : UInt8) (W0 w : World) (h : OAt B b st W0 w) (hl : st.length ≤ 1048576) :
    Calls Tryd.prog 83 #[.pointer (some ⟨b, 0, none⟩), .int .u8 c.toNat] w fun e w' => e = .returned (.bool (roL st c).2) ∧ OAt B b (roL st c).1 W0 w' ∧ RowsS w w' := by
  have HO := hide h
  by_cases h1 : c = 34 ∨ c = 39 ∨ c = 40
  · have HR : Hid (roL st c = (st ++ [c], false)) := hide (if_pos h1)
    rw [HR.out]
    have hc : c = 34 ∨ (c ≠ 34 ∧ c = 39) ∨ (c ≠ 34 ∧ c ≠ 39 ∧ c = 40) := by
      by_cases a : c = 34
      · exact .inl a
      · by_cases b : c = 39
        · exact .inr (.inl ⟨a, b⟩)
        · exact .inr (.inr ⟨a, b, (h1.resolve_left a).resolve_left b⟩)
    clear h h1
    rcases hc with k1 | ⟨k0, k1⟩ | ⟨k0, k00, k1⟩
    · have s1 : ((c.toNat : Int) == 34) = true := tT 34 k1 (by omega)
      clear k1
      go_enter Tryd.func83, Tryd.ntmps83
      go_wp2_with fail
      refine (oOpen_any B b st c W0 _ HO.out hl).mono ?_
      rintro e w1 ⟨rfl, ho, hr⟩
      have HO1 := hide ho
      have HR1 := hide hr
      clear ho hr
      go_wp2_with fail
      go_ret
      exact ⟨rfl, HO1.out, HR1.out⟩
    · have s1 : ((c.toNat : Int) == 34) = false := tF 34 k0 (by omega)
      have s2 : ((c.toNat : Int) == 39) = true := tT 39 k1 (by omega)
      clear k0 k1
      go_enter Tryd.func83, Tryd.ntmps83
      go_wp2_with fail
      refine (oOpen_any B b st c W0 _ HO.out hl).mono ?_
      rintro e w1 ⟨rfl, ho, hr⟩
      have HO1 := hide ho
      have HR1 := hide hr
      clear ho hr
      go_wp2_with fail
      go_ret
      exact ⟨rfl, HO1.out, HR1.out⟩
    · have s1 : ((c.toNat : Int) == 34) = false := tF 34 k0 (by omega)
      have s2 : ((c.toNat : Int) == 39) = false := tF 39 k00 (by omega)
      have s3 : ((c.toNat : Int) == 40) = true := tT 40 k1 (by omega)
      clear k0 k00 k1
      go_enter Tryd.func83, Tryd.ntmps83
      go_wp2_with fail
      refine (oOpen_any B b st c W0 _ HO.out hl).mono ?_
      rintro e w1 ⟨rfl, ho, hr⟩
      have HO1 := hide ho
      have HR1 := hide hr
      clear ho hr
      go_wp2_with fail
      go_ret
      exact ⟨rfl, HO1.out, HR1.out⟩
  have s1 : ((c.toNat : Int) == 34) = false := tF 34 (fun e => h1 (.inl e)) (by omega)
  have s2 : ((c.toNat : Int) == 39) = false := tF 39 (fun e => h1 (.inr (.inl e))) (by omega)
  have s3 : ((c.toNat : Int) == 40) = false := tF 40 (fun e => h1 (.inr (.inr e))) (by omega)
  by_cases h2 : c = 41
  · have HR : Hid (roL st c = (st.dropLast, false)) := hide (by unfold roL; rw [if_neg h1, if_pos h2])
    have s4 : ((c.toNat : Int) == 41) = true := tT 41 h2 (by omega)
    rw [HR.out]
    clear h h1 h2
    go_enter Tryd.func83, Tryd.ntmps83
    go_wp2_with fail
    refine (oClose_any B b st W0 _ HO.out).mono ?_
    rintro e w1 ⟨rfl, ho, hr⟩
    have HO1 := hide ho
    have HR1 := hide hr
    clear ho hr
    go_wp2_with fail
    go_ret
    exact ⟨rfl, HO1.out, HR1.out⟩
  have s4 : ((c.toNat : Int) == 41) = false := tF 41 h2 (by omega)
  by_cases h3 : c = 59
  · have HR : Hid (roL st c = (st, st.isEmpty)) := hide (by unfold roL; rw [if_neg h1, if_neg h2, if_pos h3])
    have s5 : ((c.toNat : Int) == 59) = true := tT 59 h3 (by omega)
    rw [HR.out]
    obtain ⟨v, hbx, hbuf, hB⟩ := h
    obtain ⟨A, cc, rfl⟩ := hbuf.slice_len
    have hcl := hbx.cell
    obtain ⟨n, hn⟩ : ∃ n, n = st.length := ⟨_, rfl⟩
    have HE : Hid (st.isEmpty = ((n : Int) == 0)) := hide (by
      rw [hn]
      cases st with
      | nil => rfl
      | cons a r =>
        have : (((a :: r).length : Int) == 0) = false := beq_eq_false_iff_ne.2 (by simp; omega)
        rw [this]; rfl)
    rw [← hn] at hcl
    clear h1 h2 h3 hbx hbuf hn
    rw [HE.out]
    go_enter Tryd.func83, Tryd.ntmps83
    go_wp2_with fail
    go_ret
    exact ⟨rfl, HO.out, RowsS.refl _⟩
  · have HR : Hid (roL st c = (st, false)) := hide (by unfold roL; rw [if_neg h1, if_neg h2, if_neg h3])
    have s5 : ((c.toNat : Int) == 59) = false := tF 59 h3 (by omega)
    rw [HR.out]
    clear h h1 h2 h3
    go_enter Tryd.func83, Tryd.ntmps83
    go_wp2_with fail
    go_ret
    exact ⟨rfl, HO.out, RowsS.refl _⟩
/-- read, on the signs that are open -/
def readO (st : List UInt8) (c : UInt8) : List UInt8 × Bool :=
  if lastO st = 92 then (st.dropLast, false)
  else if lastO st = 34 ∨ lastO st = 39 then (if c = lastO st then (st.dropLast, false) else if c = 92 then (st ++ [c], false) else (st, false))
  else roL st c
set_option maxHeartbeats 2000000 in
theorem oRead_any (B b : Nat) (st : List UInt8) (c : UInt8) (W0 w : World) (h : OAt B b st W0 w) (hl : st.length ≤ 1048576) :
    Calls Tryd.prog 57 #[.pointer (some ⟨b, 0, none⟩), .int .u8 c.toNat] w fun e w' => e = .returned (.bool (readO st c).2) ∧ OAt B b (readO st c).1 W0 w' ∧ RowsS w w' := by
  have HO := hide h
  obtain ⟨d, hd⟩ : ∃ d, lastO st = d := ⟨_, rfl⟩
  have HD := hide hd
  have hdef : readO st c = (if d = 92 then (st.dropLast, false) else if d = 34 ∨ d = 39 then (if c = d then (st.dropLast, false) else if c = 92 then (st ++ [c], false) else (st, false)) else roL st c) := by unfold readO; rw [hd]
  clear hd h
  by_cases h1 : d = 92
  · have HR : Hid (readO st c = (st.dropLast, false)) := hide (by rw [hdef, if_pos h1])
    have s1 : ((d.toNat : Int) == 92) = true := tT 92 h1 (by omega)
    rw [HR.out]
    clear hdef h1
    go_enter Tryd.func57, Tryd.ntmps57
    go_wp2_with fail
    refine (oInner_any B b st W0 _ HO.out).mono ?_
    rintro e w1 ⟨rfl, n, rfl⟩
    rw [HD.out]
    go_wp2_with fail
    refine (oClose_any B b st W0 _ (HO.out.drewN n)).mono ?_
    rintro e w2 ⟨rfl, ho, hr⟩
    have HO1 := hide ho
    have HR1 := hide ((rowsS_drewN w n).trans hr)
    clear ho hr
    go_wp2_with fail
    go_ret
    exact ⟨rfl, HO1.out, HR1.out⟩
  have s1 : ((d.toNat : Int) == 92) = false := tF 92 h1 (by omega)
  by_cases h2 : d = 34 ∨ d = 39
  · have hq : (((d.toNat : Int) == 34) = true) ∨ (((d.toNat : Int) == 34) = false ∧ ((d.toNat : Int) == 39) = true) := by
      rcases h2 with h | h
      · exact .inl (tT 34 h (by omega))
      · exact .inr ⟨tF 34 (by rw [h]; decide) (by omega), tT 39 h (by omega)⟩
    have hcd : ((c.toNat : Int) == (d.toNat : Int)) = decide (c = d) := by
      by_cases e : c = d
      · rw [e, decide_eq_true rfl]; simp
      · rw [decide_eq_false e, beq_eq_false_iff_ne]
        intro e2
        exact e (UInt8.toNat_inj.1 (by omega))
    by_cases h3 : c = d
    · have HR : Hid (readO st c = (st.dropLast, false)) := hide (by rw [hdef, if_neg h1, if_pos h2, if_pos h3])
      rw [decide_eq_true h3] at hcd
      rw [HR.out]
      clear hdef h1 h2 h3
      rcases hq with s2 | ⟨s2, s3⟩
      all_goals
        go_enter Tryd.func57, Tryd.ntmps57
        go_wp2_with fail
        refine (oInner_any B b st W0 _ HO.out).mono ?_
        rintro e w1 ⟨rfl, n, rfl⟩
        rw [HD.out]
        go_wp2_with fail
        refine (oClose_any B b st W0 _ (HO.out.drewN n)).mono ?_
        rintro e w2 ⟨rfl, ho, hr⟩
        have HO1 := hide ho
        have HR1 := hide ((rowsS_drewN w n).trans hr)
        clear ho hr
        go_wp2_with fail
        go_ret
        exact ⟨rfl, HO1.out, HR1.out⟩
    · rw [decide_eq_false h3] at hcd
      by_cases h4 : c = 92
      · have HR : Hid (readO st c = (st ++ [c], false)) := hide (by rw [hdef, if_neg h1, if_pos h2, if_neg h3, if_pos h4])
        have s9 : ((c.toNat : Int) == 92) = true := tT 92 h4 (by omega)
        rw [HR.out]
        clear hdef h1 h2 h3 h4
        rcases hq with s2 | ⟨s2, s3⟩
        all_goals
          go_enter Tryd.func57, Tryd.ntmps57
          go_wp2_with fail
          refine (oInner_any B b st W0 _ HO.out).mono ?_
          rintro e w1 ⟨rfl, n, rfl⟩
          rw [HD.out]
          go_wp2_with fail
          refine (oOpen_any B b st c W0 _ (HO.out.drewN n) hl).mono ?_
          rintro e w2 ⟨rfl, ho, hr⟩
          have HO1 := hide ho
          have HR1 := hide ((rowsS_drewN w n).trans hr)
          clear ho hr
          go_wp2_with fail
          go_ret
          exact ⟨rfl, HO1.out, HR1.out⟩
      · have HR : Hid (readO st c = (st, false)) := hide (by rw [hdef, if_neg h1, if_pos h2, if_neg h3, if_neg h4])
        have s9 : ((c.toNat : Int) == 92) = false := tF 92 h4 (by omega)
        rw [HR.out]
        clear hdef h1 h2 h3 h4
        rcases hq with s2 | ⟨s2, s3⟩
        all_goals
          go_enter Tryd.func57, Tryd.ntmps57
          go_wp2_with fail
          refine (oInner_any B b st W0 _ HO.out).mono ?_
          rintro e w1 ⟨rfl, n, rfl⟩
          rw [HD.out]
          go_wp2_with fail
          go_ret
          exact ⟨rfl, HO.out.drewN n, rowsS_drewN w n⟩
  · have HR : Hid (readO st c = roL st c) := hide (by rw [hdef, if_neg h1, if_neg h2])
    have s2 : ((d.toNat : Int) == 34) = false := tF 34 (fun e => h2 (.inl e)) (by omega)
    have s3 : ((d.toNat : Int) == 39) = false := tF 39 (fun e => h2 (.inr e)) (by omega)
    rw [HR.out]
    clear hdef h1 h2
    go_enter Tryd.func57, Tryd.ntmps57
    go_wp2_with fail
    refine (oInner_any B b st W0 _ HO.out).mono ?_
    rintro e w1 ⟨rfl, n, rfl⟩
    rw [HD.out]
    go_wp2_with fail
    refine (oOutside_any B b st c W0 _ (HO.out.drewN n) hl).mono ?_
    rintro e w2 ⟨rfl, ho, hr⟩
    have HO1 := hide ho
    have HR1 := hide ((rowsS_drewN w n).trans hr)
    clear ho hr
    go_wp2_with fail
    go_ret
    exact ⟨rfl, HO1.out, HR1.out⟩
end Go.Proofs.YtlhjdjjbmljilaaDoor
