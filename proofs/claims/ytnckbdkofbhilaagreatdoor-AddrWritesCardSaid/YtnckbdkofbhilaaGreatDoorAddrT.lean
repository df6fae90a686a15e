/- WALK of addr.boxTexts. No statement is proved here. -/
import Derived.Test.YtnckbdkofbhilaaGreatDoorBaseN
import Derived.Test.YtnckbdkofbhilaaGreatDoorBaseM
import Derived.Deep.RegionLaw
namespace Go.Proofs.YtnckbdkofbhilaaGreatDoor
open Go.RowKit
set_option linter.unusedVariables false
set_option linter.unusedSimpArgs false
set_option maxRecDepth 100000
/-- blocks of other types than string are as they were -/
def KeptS (w w' : World) : Prop := ∀ (b : Nat) (cs : Array Value) (t : TypeId) (fr : Nat × Nat), t ≠ 9 → w.heap[b]? = some (.cells cs t fr) → w'.heap[b]? = w.heap[b]?
theorem KeptS.alloc {w w' : World} (o : Obj) (h : KeptS (w.alloc o) w') : KeptS w w' := fun b cs t fr ht hb => by
  have hlt := lt_of_block hb
  have e := Below.heap_alloc w o b hlt
  exact (h b cs t fr ht (e.trans hb)).trans e
theorem KeptS.drew {w w' : World} (h : KeptS w.drew w') : KeptS w w' := h
theorem KeptS.box {w w' : World} (h : KeptS w w') {b : Nat} {t : TypeId} {v : Value} (hb : Box w b t v) (ht : t ≠ 9) : Box w' b t v := (h b _ t _ ht hb).trans hb
theorem SBuf.ne_cells {B b : Nat} {v : Value} {l : List ByteArray} {W0 w : World} {cs : Array Value} {t : TypeId} {fr : Nat × Nat} (h : SBuf B v l W0 w) (hb : w.heap[b]? = some (.cells cs t fr)) (ht : t ≠ 9) : v.ownBlock ≠ some b := by
  rcases h.1.2 with ⟨rfl, _⟩ | ⟨g, cap, cur, rfl, _, hh, _⟩
  · simp [Value.ownBlock]
  · intro he
    have e : g = b := by simpa [Value.ownBlock] using he
    subst e
    rw [hh] at hb
    injection hb with hb
    injection hb with _ e
    exact ht e.symm
theorem SBuf.setCells {B b : Nat} {v : Value} {l : List ByteArray} {W0 w : World} {cs : Array Value} {t : TypeId} {fr : Nat × Nat} (h : SBuf B v l W0 w) (hb : w.heap[b]? = some (.cells cs t fr)) (ht : t ≠ 9) (hB : B ≤ b) (i : Nat) (x : Value) : SBuf B v l W0 (w.setCell ⟨b, i, none⟩ x) :=
  ⟨ownsRow_setCell_other h.1 (h.ne_cells hb ht) x, h.2.1.setCell hB x, by simpa [World.setCell] using h.2.2⟩
theorem keptS_own {B : Nat} {v : Value} {l : List ByteArray} {W0 w w' : World} (h : SBuf B v l W0 w) (hg : w.grownBy w' v.ownBlock) : KeptS w w' :=
  fun b cs t fr ht hx => hg.block b (lt_of_block hx) (fun e => h.ne_cells hx ht e.symm)
/-- append(l, s) at a step of a region that draws, with the other blocks kept -/
theorem step_strs_kept {ops : Array Oper} {o : Oper} {a : Act} {w : World} {K : Act → World → Prop} {Q : Exit → Act → World → Prop} {E : Prop} (hgd : o.guard = none) (s x : Operand)
    (ho : o.op = .call { callee := .builtin .append, args := #[s, x], argTypes := #[37, 37] })
    (B : Nat) (v : Value) (l : List ByteArray) (hs : a.eval s = v) (W0 : World) (hb : SBuf B v l W0 w) (ad : Addr) (hx : a.eval x = .slice (some ad) 1 1)
    (c : ByteArray) (hc : w.cell? ad = some (.string c)) (hlen : l.length + 1 ≤ 8796093022208)
    (h : ∀ v' w', SBuf B v' (l ++ [c]) W0 w' → KeptS w w' → K (a.put o.dst v') w') :
    if Region.wanted o (yielded ops a.tmps) = true then Oper.wp Tryz.prog o a w K Q else E := by
  have hw : Region.wanted o (yielded ops a.tmps) = true := by simp [Region.wanted, hgd]
  rw [if_pos hw]
  obtain ⟨i0, hi, hz0, hz1, hz2⟩ := info_parts info_str
  refine wp_append_own _ s x 37 ho B 9 i0 (.string ByteArray.empty) 1 16 Tryz.underlying37 hi hz0 hz1 hz2 rfl (by decide) v l.length (strVals l) hs hb.1 ad 1 1 [.string c] hx rfl ?_ ?_ (by unfold maxLen; omega) (by omega) hb.2.2 ?_
  · intro j u hj
    match j, hj with
    | 0, hj => simp at hj; subst hj; simpa [Addr.add] using hc
    | (j + 1), hj => simp at hj
  · intro u hu; simp at hu; subst hu; rfl
  · intro v' w' ho' hg _
    exact h v' w' (hb.grown (l' := l ++ [c]) (by simpa [strVals] using ho') hg) (keptS_own hb hg)
/-! ### the texts of the boxes -/
abbrev BxSt := Bool × List ByteArray × Nat
def bxStep (s : ByteArray) (st : BxSt) (k : Nat) (c : UInt8) (pl : Nat) : BxSt :=
  if pl ≠ 0 then st
  else if c = 60 then (true, st.2)
  else if c = 62 then (false, st.2)
  else if c = 44 ∨ c = 59 then (if st.1 then st else (false, st.2.1 ++ [s.extract st.2.2 k], k + 1))
  else st
def bxAt (s : ByteArray) : Nat → BxSt
  | 0 => (false, [], 0)
  | k + 1 => if h : k < s.size then bxStep s (bxAt s k) k s[k] (placeAt s k h) else bxAt s k
theorem bxAt_succ (s : ByteArray) (k : Nat) (h : k < s.size) : bxAt s (k + 1) = bxStep s (bxAt s k) k s[k] (placeAt s k h) := by
  show (if h : k < s.size then _ else _) = _
  rw [dif_pos h]
theorem bxStep_bd (s : ByteArray) (st : BxSt) (k : Nat) (c : UInt8) (pl : Nat) (h1 : st.2.1.length ≤ k) (h2 : st.2.2 ≤ k) : (bxStep s st k c pl).2.1.length ≤ k + 1 ∧ (bxStep s st k c pl).2.2 ≤ k + 1 := by
  unfold bxStep
  split
  · exact ⟨by omega, by omega⟩
  · split
    · exact ⟨Nat.le_succ_of_le h1, Nat.le_succ_of_le h2⟩
    · split
      · exact ⟨Nat.le_succ_of_le h1, Nat.le_succ_of_le h2⟩
      · split
        · split
          · exact ⟨by omega, by omega⟩
          · refine ⟨?_, Nat.le_refl _⟩
            show (st.2.1 ++ [_]).length ≤ _
            rw [List.length_append]; simp; exact h1
        · exact ⟨by omega, by omega⟩
theorem bxAt_bd (s : ByteArray) (k : Nat) : (bxAt s k).2.1.length ≤ k ∧ (bxAt s k).2.2 ≤ k := by
  induction k with
  | zero => exact ⟨Nat.le_refl _, Nat.le_refl _⟩
  | succ k ih =>
    by_cases hk : k < s.size
    · rw [bxAt_succ s k hk]; exact bxStep_bd s _ k _ _ ih.1 ih.2
    · have e : bxAt s (k + 1) = bxAt s k := by show (if h : k < s.size then _ else _) = _; rw [dif_neg hk]
      rw [e]; exact ⟨by omega, by omega⟩
/-- boxTexts' variables in memory: open, out, s, begin -/
structure BxAt (s : ByteArray) (bo bt bs bb B : Nat) (W0 : World) (st : BxSt) (w : World) : Prop where
  op : Box w bo 4 (.bool st.1)
  tx : ∃ v, Box w bt 37 v ∧ SBuf B v st.2.1 W0 w
  sx : Box w bs 9 (.string s)
  bg : Box w bb 3 (.int .i64 st.2.2)
theorem BxAt.setOpen {s : ByteArray} {bo bt bs bb B : Nat} {W0 : World} {st : BxSt} {w : World} (h : BxAt s bo bt bs bb B W0 st w) (hB : B ≤ bo) (b : Bool) : BxAt s bo bt bs bb B W0 (b, st.2) (w.setCell ⟨bo, 0, none⟩ (.bool b)) := by
  obtain ⟨v, h1, h2⟩ := h.tx
  exact ⟨h.op.set _, ⟨v, h1.far (h1.ne h.op (by decide)) _, h2.setCells h.op (by decide) hB 0 _⟩, h.sx.far (h.sx.ne h.op (by decide)) _, h.bg.far (h.bg.ne h.op (by decide)) _⟩
theorem BxAt.drew {s : ByteArray} {bo bt bs bb B : Nat} {W0 : World} {st : BxSt} {w : World} (h : BxAt s bo bt bs bb B W0 st w) : BxAt s bo bt bs bb B W0 st w.drew := by
  obtain ⟨v, h1, h2⟩ := h.tx
  exact ⟨h.op.drew, ⟨v, h1.drew, h2.drew⟩, h.sx.drew, h.bg.drew⟩
/-- a store into a block of another type -/
theorem BxAt.setOther {s : ByteArray} {bo bt bs bb B m : Nat} {W0 : World} {st : BxSt} {w : World} {cs : Array Value} {T : TypeId} {fr : Nat × Nat} (h : BxAt s bo bt bs bb B W0 st w) (hm : w.heap[m]? = some (.cells cs T fr)) (hT : T ≠ 9) (n1 : bo ≠ m) (n2 : bt ≠ m) (n3 : bs ≠ m) (n4 : bb ≠ m) (hB : B ≤ m) (i : Nat) (x : Value) : BxAt s bo bt bs bb B W0 st (w.setCell ⟨m, i, none⟩ x) := by
  obtain ⟨v, h1, h2⟩ := h.tx
  exact ⟨h.op.far n1 _, ⟨v, h1.far n2 _, h2.setCells hm hT hB i _⟩, h.sx.far n3 _, h.bg.far n4 _⟩
theorem BxAt.cut {s : ByteArray} {bo bt bs bb B : Nat} {W0 : World} {o : Bool} {outs outs' : List ByteArray} {bg n : Nat} {w w2 : World} {v2 : Value} (h : BxAt s bo bt bs bb B W0 (o, outs, bg) w) (hk : KeptS w w2) (h2 : SBuf B v2 outs' W0 w2) (hsB : bs < B) (hBt : B ≤ bt) (hBb : B ≤ bb) :
    BxAt s bo bt bs bb B W0 (o, outs', n) ((w2.setCell ⟨bt, 0, none⟩ v2).setCell ⟨bb, 0, none⟩ (.int .i64 (n : Int))) := by
  obtain ⟨v, h1, hb⟩ := h.tx
  have o2 := hk.box h.op (by decide)
  have t2 := hk.box h1 (by decide)
  have b2 := hk.box h.bg (by decide)
  have s2 : Box w2 bs 9 (.string s) := ((h2.below.block bs hsB).trans (hb.below.block bs hsB).symm).trans h.sx
  have nbt : bb ≠ bt := b2.ne t2 (by decide)
  have nst : bs ≠ bt := s2.ne t2 (by decide)
  have not_ : bo ≠ bt := o2.ne t2 (by decide)
  have nob : bo ≠ bb := o2.ne b2 (by decide)
  have nsb : bs ≠ bb := s2.ne b2 (by decide)
  have b3 : Box (w2.setCell ⟨bt, 0, none⟩ v2) bb 3 _ := b2.far nbt v2
  have s3 : Box (w2.setCell ⟨bt, 0, none⟩ v2) bs 9 _ := s2.far nst v2
  exact ⟨(o2.far (a := ⟨bt, 0, none⟩) not_ _).far (a := ⟨bb, 0, none⟩) nob _, ⟨v2, (t2.set v2).far (a := ⟨bb, 0, none⟩) (Ne.symm nbt) _, (h2.setCells t2 (by decide) hBt 0 _).setCells b3 (by decide) hBb 0 _⟩, s3.far (a := ⟨bb, 0, none⟩) nsb _, b3.set _⟩
set_option maxHeartbeats 1600000 in
theorem bx_step (s : ByteArray) (k : Nat) (c : UInt8) (pl : Nat) (st : BxSt) (bo bt bs bb B m : Nat) (W0 w : World) (cs : Array Value) (T : TypeId) (fr : Nat × Nat) (h : BxAt s bo bt bs bb B W0 st w)
    (hsB : bs < B) (hBo : B ≤ bo) (hBt : B ≤ bt) (hBb : B ≤ bb) (hm : w.heap[m]? = some (.cells cs T fr)) (hT : T ≠ 9) (n1 : m ≠ bo) (n2 : m ≠ bt) (n4 : m ≠ bb)
    (hk : k < s.size) (hlen : st.2.1.length ≤ k) (hbk : st.2.2 ≤ k) (hs : s.size ≤ 1048576) :
    Calls Tryz.prog 63 #[.int .i64 k, .int .u8 c.toNat, .int .i64 pl, .pointer (some ⟨bo, 0, none⟩), .pointer (some ⟨bt, 0, none⟩), .pointer (some ⟨bs, 0, none⟩), .pointer (some ⟨bb, 0, none⟩)] w fun e w' => e = .returned (.tuple #[]) ∧
      BxAt s bo bt bs bb B W0 (bxStep s st k c pl) w' ∧ w'.heap[m]? = w.heap[m]? := by
  have H := hide h
  have stay : Hid (∀ st', st' = st → BxAt s bo bt bs bb B W0 st' w) := hide fun st' e => by subst e; exact h
  have OP : Hid (∀ b : Bool, BxAt s bo bt bs bb B W0 (b, st.2) (w.setCell ⟨bo, 0, none⟩ (.bool b)) ∧ (w.setCell ⟨bo, 0, none⟩ (.bool b)).heap[m]? = w.heap[m]?) := hide fun b => ⟨h.setOpen hBo b, Below.heap_setCell w _ _ m n1⟩
  have f0 := h.op.free
  have c0 := h.op.cell
  by_cases p0 : pl = 0
  · subst p0
    by_cases e1 : c = 60
    · have t1 : ((c.toNat : Int) == 60) = true := tT 60 e1 (by decide)
      have HS : Hid (bxStep s st k c 0 = (true, st.2)) := hide (by unfold bxStep; rw [if_neg (by decide), if_pos e1])
      clear e1 h hm hk hlen hbk hs
      go_enter Tryz.func63, Tryz.ntmps63
      go_wp2_with fail
      go_end0
      exact ⟨rfl, by rw [HS.out]; exact OP.out true⟩
    · have t1 : ((c.toNat : Int) == 60) = false := tF 60 e1 (by decide)
      by_cases e2 : c = 62
      · have t2 : ((c.toNat : Int) == 62) = true := tT 62 e2 (by decide)
        have HS : Hid (bxStep s st k c 0 = (false, st.2)) := hide (by unfold bxStep; rw [if_neg (by decide), if_neg e1, if_pos e2])
        clear e1 e2 h hm hk hlen hbk hs
        go_enter Tryz.func63, Tryz.ntmps63
        go_wp2_with fail
        go_end0
        exact ⟨rfl, by rw [HS.out]; exact OP.out false⟩
      · have t2 : ((c.toNat : Int) == 62) = false := tF 62 e2 (by decide)
        by_cases e3 : c = 44 ∨ c = 59
        · obtain ⟨o, outs, bg⟩ := st
          cases o with
          | true =>
            have HS : Hid (bxStep s (true, outs, bg) k c 0 = (true, outs, bg)) := hide (by unfold bxStep; rw [if_neg (by decide), if_neg e1, if_neg e2, if_pos e3, if_pos rfl])
            have c0' : w.cell? ⟨bo, 0, none⟩ = some (.bool true) := c0
            rcases e3 with e3 | e3
            · have t3 : ((c.toNat : Int) == 44) = true := tT 44 e3 (by decide)
              clear e1 e2 e3 h hm hk hlen hbk hs c0
              go_enter Tryz.func63, Tryz.ntmps63
              go_wp2_with fail
              go_end0
              exact ⟨rfl, stay.out _ HS.out, rfl⟩
            · have t3 : ((c.toNat : Int) == 44) = false := tF 44 (by rw [e3]; decide) (by decide)
              have t4 : ((c.toNat : Int) == 59) = true := tT 59 e3 (by decide)
              clear e1 e2 e3 h hm hk hlen hbk hs c0
              go_enter Tryz.func63, Tryz.ntmps63
              go_wp2_with fail
              go_end0
              exact ⟨rfl, stay.out _ HS.out, rfl⟩
          | false =>
            have HS : Hid (bxStep s (false, outs, bg) k c 0 = (false, outs ++ [s.extract bg k], k + 1)) := hide (by unfold bxStep; rw [if_neg (by decide), if_neg e1, if_neg e2, if_pos e3]; rfl)
            have c0' : w.cell? ⟨bo, 0, none⟩ = some (.bool false) := c0
            obtain ⟨v, h1, h2⟩ := h.tx
            have c1 := h1.cell
            have f1 := h1.free
            have c2 := h.sx.cell
            have c3 : w.cell? ⟨bb, 0, none⟩ = some (.int .i64 (bg : Int)) := h.bg.cell
            have f3 := h.bg.free
            have q1 : (0 : Int) ≤ bg := by omega
            have q2 : (bg : Int) ≤ k := by have : bg ≤ k := hbk; omega
            have q3 : (k : Int) ≤ s.size := by omega
            have q4 : IntKind.i64.wrap ((k : Int) + 1) = (k : Int) + 1 := IntWalk.i64_in _ (by omega)
            have HL : Hid (outs.length + 1 ≤ 8796093022208) := hide (by have : outs.length ≤ k := hlen; omega)
            have HM := hide hm
            have NBT : Hid (bb ≠ bt) := hide (h.bg.ne h1 (by decide))
            have c5 : (w.alloc (.cells #[.string (s.extract bg k)] 9)).cell? ⟨bt, 0, none⟩ = some v := (h1.alloc _).cell
            have HN : Hid ((outs ++ [s.extract bg k]).length = outs.length + 1) := hide (by rw [List.length_append]; rfl)
            have H2 := hide h2
            have H1 := hide h1
            obtain ⟨A1, z1, rfl⟩ := h2.slice_len
            rcases e3 with e3 | e3
            · have t3 : ((c.toNat : Int) == 44) = true := tT 44 e3 (by decide)
              clear e1 e2 e3 h hm hk hlen hbk hs c0 h1 h2
              go_enter Tryz.func63, Tryz.ntmps63
              go_wp2_with fail
              go_region_law (first
                | (refine step_strs_kept rfl _ _ rfl B (.slice A1 outs.length z1) outs rfl W0 (H2.out.alloc _).drew ⟨w.heap.size, 0, none⟩ rfl (s.extract bg k) ?_ HL.out ?_
                   · show (w.alloc _).cell? _ = _
                     rw [World.cell?_alloc_at _ _ _ _ rfl]
                     rfl
                   intro v2 w2 hb2 hk2
                   obtain ⟨A2, z2, rfl⟩ := hb2.slice_len
                   rw [HN.out] at hb2
                   have hk3 := hk2.drew.alloc _
                   have hf2 := (hk3.box H1.out (by decide)).free
                   have hf3 := (hk3.box H.out.bg (by decide)).free
                   have hc2 := (hk3.box H1.out (by decide)).cell
                   have hc3 : (w2.setCell ⟨bt, 0, none⟩ (.slice A2 (outs.length + 1) z2)).cell? ⟨bb, 0, none⟩ = some (.int .i64 (bg : Int)) := ((hk3.box H.out.bg (by decide)).far NBT.out _).cell
                   have HB2 := hide hb2
                   have HK2 := hide hk3
                   clear hb2 hk2 hk3)
                | fail)
              all_goals
                try go_wp2_with fail
                go_end0
                refine ⟨rfl, by rw [HS.out]; exact H.out.cut HK2.out HB2.out hsB hBt hBb, ?_⟩
                exact ((Below.heap_setCell _ _ _ m n4).trans (Below.heap_setCell _ _ _ m n2)).trans (HK2.out m cs T fr hT HM.out)
            · have t3 : ((c.toNat : Int) == 44) = false := tF 44 (by rw [e3]; decide) (by decide)
              have t4 : ((c.toNat : Int) == 59) = true := tT 59 e3 (by decide)
              clear e1 e2 e3 h hm hk hlen hbk hs c0 h1 h2
              go_enter Tryz.func63, Tryz.ntmps63
              go_wp2_with fail
              go_region_law (first
                | (refine step_strs_kept rfl _ _ rfl B (.slice A1 outs.length z1) outs rfl W0 (H2.out.alloc _).drew ⟨w.heap.size, 0, none⟩ rfl (s.extract bg k) ?_ HL.out ?_
                   · show (w.alloc _).cell? _ = _
                     rw [World.cell?_alloc_at _ _ _ _ rfl]
                     rfl
                   intro v2 w2 hb2 hk2
                   obtain ⟨A2, z2, rfl⟩ := hb2.slice_len
                   rw [HN.out] at hb2
                   have hk3 := hk2.drew.alloc _
                   have hf2 := (hk3.box H1.out (by decide)).free
                   have hf3 := (hk3.box H.out.bg (by decide)).free
                   have hc2 := (hk3.box H1.out (by decide)).cell
                   have hc3 : (w2.setCell ⟨bt, 0, none⟩ (.slice A2 (outs.length + 1) z2)).cell? ⟨bb, 0, none⟩ = some (.int .i64 (bg : Int)) := ((hk3.box H.out.bg (by decide)).far NBT.out _).cell
                   have HB2 := hide hb2
                   have HK2 := hide hk3
                   clear hb2 hk2 hk3)
                | fail)
              all_goals
                try go_wp2_with fail
                go_end0
                refine ⟨rfl, by rw [HS.out]; exact H.out.cut HK2.out HB2.out hsB hBt hBb, ?_⟩
                exact ((Below.heap_setCell _ _ _ m n4).trans (Below.heap_setCell _ _ _ m n2)).trans (HK2.out m cs T fr hT HM.out)
        · have t3 : ((c.toNat : Int) == 44) = false := tF 44 (fun e => e3 (.inl e)) (by decide)
          have t4 : ((c.toNat : Int) == 59) = false := tF 59 (fun e => e3 (.inr e)) (by decide)
          have HS : Hid (bxStep s st k c 0 = st) := hide (by unfold bxStep; rw [if_neg (by decide), if_neg e1, if_neg e2, if_neg e3])
          clear e1 e2 e3 h hm hk hlen hbk hs
          go_enter Tryz.func63, Tryz.ntmps63
          go_wp2_with fail
          go_end0
          exact ⟨rfl, stay.out _ HS.out, rfl⟩
  · have t0 : ((pl : Int) != 0) = true := by rw [bne_iff_ne]; omega
    have HS : Hid (bxStep s st k c pl = st) := hide (by unfold bxStep; rw [if_pos p0])
    clear p0 h hm hk hlen hbk hs
    go_enter Tryz.func63, Tryz.ntmps63
    go_wp2_with fail
    refine bodyPost_ret (results_none rfl _ _ _) rfl ?_
    exact ⟨rfl, stay.out _ HS.out, rfl⟩
theorem BxAt.alloc {s : ByteArray} {bo bt bs bb B : Nat} {W0 : World} {st : BxSt} {w : World} (h : BxAt s bo bt bs bb B W0 st w) (o : Obj) : BxAt s bo bt bs bb B W0 st (w.alloc o) := by
  obtain ⟨v, h1, h2⟩ := h.tx
  exact ⟨h.op.alloc o, ⟨v, h1.alloc o, h2.alloc o⟩, h.sx.alloc o, h.bg.alloc o⟩
theorem cells_set {w : World} {g j : Nat} {cur : Array Value} {e : TypeId} {fr : Nat × Nat} (u : Value) (h : w.heap[g]? = some (.cells cur e fr)) : (w.setCell ⟨g, j, none⟩ u).heap[g]? = some (.cells (cur.setIfInBounds j u) e fr) := by
  have hlt := lt_of_block h
  have h' : w.heap[g] = .cells cur e fr := by simpa [Array.getElem?_eq_getElem hlt] using h
  show (w.heap.modify g _)[g]? = _
  rw [Array.getElem?_eq_getElem (by simpa using hlt), Array.getElem_modify_self, h']
  rfl
/-- walk with boxTexts' function -/
theorem walk_bx (s : ByteArray) (bo bt bs bb B : Nat) (W0 w : World) (hs : s.size ≤ 1048576) (h : BxAt s bo bt bs bb B W0 (false, [], 0) w) (hsB : bs < B) (hBo : B ≤ bo) (hBt : B ≤ bt) (hBb : B ≤ bb) :
    Calls Tryz.prog 62 #[.string s, .func (.func 63) #[] #[.pointer (some ⟨bo, 0, none⟩), .pointer (some ⟨bt, 0, none⟩), .pointer (some ⟨bs, 0, none⟩), .pointer (some ⟨bb, 0, none⟩)]] w fun e w' => e = .returned (.tuple #[]) ∧
      BxAt s bo bt bs bb B W0 (bxAt s s.size) w' := by
  obtain ⟨v, t1, t2⟩ := h.tx
  have n1 : bo ≠ w.heap.size := Nat.ne_of_lt h.op.lt
  have n2 : bt ≠ w.heap.size := Nat.ne_of_lt t1.lt
  have n3 : bs ≠ w.heap.size := Nat.ne_of_lt h.sx.lt
  have n4 : bb ≠ w.heap.size := Nat.ne_of_lt h.bg.lt
  have hBw : B ≤ w.heap.size := t2.2.2
  refine (walk_box s _ w (fun k w' => BxAt s bo bt bs bb B W0 (bxAt s k) w' ∧ ∃ cs fr, w'.heap[w.heap.size]? = some (.cells cs 105 fr)) hs ?_ ?_ ?_ ?_).mono ?_
  · exact ⟨h.alloc _, _, _, heap_alloc_new w _⟩
  · rintro k w' i v ⟨i1, cs, fr, i2⟩
    exact ⟨i1.setOther i2 (by decide) n1 n2 n3 n4 hBw i v, _, _, cells_set v i2⟩
  · rintro k w' ⟨i1, i2⟩
    exact ⟨i1.drew, i2⟩
  · rintro k hk w' ⟨i1, cs, fr, i2⟩
    obtain ⟨d1, d2⟩ := bxAt_bd s k
    refine (bx_step s k s[k] (placeAt s k hk) (bxAt s k) bo bt bs bb B w.heap.size W0 w' cs _ fr i1 hsB hBo hBt hBb i2 (by decide) (Ne.symm n1) (Ne.symm n2) (Ne.symm n4) hk d1 d2 hs).mono ?_
    rintro e w2 ⟨rfl, j1, j2⟩
    rw [← bxAt_succ s k hk] at j1
    exact ⟨rfl, ⟨j1, cs, fr, j2.trans i2⟩, j2⟩
  · rintro e w' ⟨rfl, i1, _⟩
    exact ⟨rfl, i1⟩
/-- the texts of the boxes of a list -/
def boxL (s : ByteArray) : List ByteArray := (bxAt s s.size).2.1 ++ [s.extract (bxAt s s.size).2.2 s.size]
theorem SBuf.lower {v : Value} {l : List ByteArray} {w w' : World} {o : Obj} (h : SBuf (w.heap.size + 1) v l (w.alloc o) w') : SBuf w.heap.size v l w w' := by
  obtain ⟨⟨h1, h2⟩, hb, hB⟩ := h
  refine ⟨⟨h1, ?_⟩, (Below.refl w.heap.size w).alloc (Nat.le_refl _) o |>.trans (hb.mono (Nat.le_succ _)), Nat.le_of_succ_le hB⟩
  rcases h2 with h2 | ⟨g, cap, cur, e1, hg, e2⟩
  · exact .inl h2
  · exact .inr ⟨g, cap, cur, e1, Nat.le_of_succ_le hg, e2⟩
set_option maxHeartbeats 1600000 in
theorem boxTexts_any (s : ByteArray) (w : World) (hs : s.size ≤ 1048576) :
    Calls Tryz.prog 35 #[.string s] w fun e w' => ∃ v, e = .returned v ∧ SBuf w.heap.size v (boxL s) w w' := by
  have S0 := Box.new w 9 (.string s)
  have S1 := Box.new (w.alloc (.cells #[.string s] 9)) 37 (.slice none 0 0)
  rw [World.size_alloc] at S1
  have S2 := Box.new ((w.alloc (.cells #[.string s] 9)).alloc (.cells #[.slice none 0 0] 37)) 3 (.int .i64 0)
  rw [World.size_alloc, World.size_alloc] at S2
  have S3 := Box.new (((w.alloc (.cells #[.string s] 9)).alloc (.cells #[.slice none 0 0] 37)).alloc (.cells #[.int .i64 0] 3)) 4 (.bool false)
  rw [World.size_alloc, World.size_alloc, World.size_alloc] at S3
  have SB : SBuf (w.heap.size + 1) (.slice none 0 0) [] (w.alloc (.cells #[.string s] 9)) ((((w.alloc (.cells #[.string s] 9)).alloc (.cells #[.slice none 0 0] 37)).alloc (.cells #[.int .i64 0] 3)).alloc (.cells #[.bool false] 4)) :=
    (((SBuf.nil (B := w.heap.size + 1) (Below.refl _ _) (by rw [World.size_alloc]; exact Nat.le_refl _)).alloc _).alloc _).alloc _
  have C := hide (walk_bx s (w.heap.size + 3) (w.heap.size + 1) w.heap.size (w.heap.size + 2) (w.heap.size + 1) (w.alloc (.cells #[.string s] 9)) _ hs ⟨S3, ⟨_, (S1.alloc _).alloc _, SB⟩, ((S0.alloc _).alloc _).alloc _, S2.alloc _⟩ (Nat.lt_succ_self _) (by omega) (Nat.le_refl _) (by omega))
  obtain ⟨d1, d2⟩ := bxAt_bd s s.size
  have HL : Hid (boxL s = (bxAt s s.size).2.1 ++ [s.extract (bxAt s s.size).2.2 s.size]) := hide rfl
  obtain ⟨⟨o, outs, bg⟩, hA⟩ : ∃ A, bxAt s s.size = A := ⟨_, rfl⟩
  rw [hA] at C d1 d2 HL
  have q1 : (0 : Int) ≤ bg := by omega
  have q2 : (bg : Int) ≤ s.size := by have : bg ≤ s.size := d2; omega
  have HN : Hid (outs.length + 1 ≤ 8796093022208) := hide (by have : outs.length ≤ s.size := d1; omega)
  clear hA S0 S1 S2 S3 SB d1 d2 hs
  go_enter Tryz.func35, Tryz.ntmps35
  go_wp2_with (go_at_call 62; refine C.out.mono ?_; rintro e w1 ⟨rfl, hx⟩; obtain ⟨v1, ht, hv⟩ := hx.tx; obtain ⟨A1, z1, rfl⟩ := hv.slice_len; have c0 := hx.sx.cell; have c1 := ht.cell; have c2 : w1.cell? ⟨w.heap.size + 2, 0, none⟩ = some (.int .i64 (bg : Int)) := hx.bg.cell; have c5 : (w1.alloc (.cells #[.string (s.extract bg s.size)] 9)).cell? ⟨w.heap.size + 1, 0, none⟩ = some (.slice A1 outs.length z1) := (ht.alloc _).cell; have H2 := hide hv; clear hx ht hv)
  go_region_law (first
    | (refine step_strs_kept rfl _ _ rfl (w.heap.size + 1) (.slice A1 outs.length z1) outs rfl (w.alloc (.cells #[.string s] 9)) (H2.out.alloc _).drew ⟨w1.heap.size, 0, none⟩ rfl (s.extract bg s.size) ?_ HN.out ?_
       · show (w1.alloc _).cell? _ = _
         rw [World.cell?_alloc_at _ _ _ _ rfl]
         rfl
       intro v2 w2 hb2 hk2
       have HB2 := hide hb2
       clear hb2 hk2)
    | fail)
  all_goals
    try go_wp2_with fail
    go_ret
    exact ⟨_, rfl, by rw [HL.out]; exact HB2.out.lower⟩
end Go.Proofs.YtnckbdkofbhilaaGreatDoor
