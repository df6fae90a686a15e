/- WALKS of htok's reader: endText, add. No statement is proved here. Own work of the verifier. -/
import Derived.Test.YtmojckphfbcibaaGreatDoorRdE
namespace Go.Proofs.YtmojckphfbcibaaGreatDoor
open Go.RowKit
set_option linter.unusedVariables false
set_option linter.unusedSimpArgs false
set_option maxRecDepth 100000
/-- what is no reader, no row of bytes, and not the row o, is as it was -/
def KeptB (b : Nat) (o : Value) (w w' : World) : Prop := w.heap.size ≤ w'.heap.size ∧ ∀ k, k < w.heap.size → k ≠ b → o.ownBlock ≠ some k → (∀ cur fr, w.heap[k]? ≠ some (Obj.cells cur 5 fr)) → w'.heap[k]? = w.heap[k]?
theorem KeptB.attr {b : Nat} {o : Value} {w w' : World} {B n : Nat} {u : Value} {xs : List Value} (h : KeptB b o w w') (hr : w.ownsRow B 35 2 u n xs) {bo m : Nat} {ys : List Value} (ho : w.ownsRow bo 32 4 o m ys) {a v p : Value} (hb : RdC w b p a v) : w'.ownsRow B 35 2 u n xs := by
  refine ⟨hr.1, ?_⟩
  rcases hr.2 with h2 | ⟨g, cap, cur, h1, hg, hh, h3⟩
  · exact .inl h2
  · have hlt : g < w.heap.size := lt_of_block hh
    refine .inr ⟨g, cap, cur, h1, hg, (h.2 g hlt ?_ ?_ ?_).trans hh, h3⟩
    · intro e
      have hb' : w.heap[b]? = some (.cells #[p, a, v] 42 (0, 0)) := hb
      rw [← e, hh] at hb'
      injection hb' with hb'
      injection hb' with _ hb'
      exact absurd hb' (by decide)
    · exact ownsRow_other ho (fun cur' hc => by
        rw [hh] at hc
        injection hc with hc
        injection hc with _ hc
        exact absurd hc (by decide))
    · intro cur' fr hc
      rw [hh] at hc
      injection hc with hc
      injection hc with _ hc
      exact absurd hc (by decide)
/-- what endText leaves -/
def EndP (B b : Nat) (o : Value) (vs : List TokV) (x : List UInt8) (W0 w w' : World) : Prop :=
  ∃ o' vs', Rdr B b o' vs' [] W0 w' ∧ vs'.map Prod.fst = flushT (vs.map Prod.fst) x ∧ vs'.length ≤ vs.length + 1 ∧ KeptB b o w w'
theorem Rdr.cell {B b : Nat} {o : Value} {vs : List TokV} {x : List UInt8} {W0 w : World} (h : Rdr B b o vs x W0 w) : ∃ a v, RdC w b o a v := by
  obtain ⟨⟨a, v, h1, _⟩, _⟩ := h
  exact ⟨a, v, h1⟩
theorem tok_row (W : World) (c0 c1 c2 c3 : Value) : (W.alloc (.cells #[c0, c1, c2, c3] 32)).cell? ((⟨W.heap.size, 0, none⟩ : Addr).add 0) = some c0 ∧ (W.alloc (.cells #[c0, c1, c2, c3] 32)).cell? ((⟨W.heap.size, 0, none⟩ : Addr).add 1) = some c1 ∧
    (W.alloc (.cells #[c0, c1, c2, c3] 32)).cell? ((⟨W.heap.size, 0, none⟩ : Addr).add 2) = some c2 ∧ (W.alloc (.cells #[c0, c1, c2, c3] 32)).cell? ((⟨W.heap.size, 0, none⟩ : Addr).add 3) = some c3 := by
  refine ⟨?_, ?_, ?_, ?_⟩ <;> exact (World.cell?_alloc_at _ _ _ _ rfl).trans rfl
theorem below_one (w : World) (o : Obj) : Below w.heap.size w (w.alloc o) := (Below.refl _ _).alloc (Nat.le_refl _) _
/-- behind the append of a token and the store of the row -/
theorem stored {B b : Nat} {o a v : Value} {vs : List TokV} {t : TokL} {u : Value} {W0 w1 w2 : World} {ob : Obj} {A : Option Addr} {n c : Nat} (hr : RdC w1 b o a v) (ht : TRow B o vs w1) (hB : B ≤ b) (hW : Below B W0 w1) (hz : B ≤ w1.heap.size)
    (h2 : TRow B (.slice A n c) (vs ++ [(t, u)]) w2) (hg : (w1.alloc ob).grownBy w2 o.ownBlock) : RdC w2 b o a v ∧ RdrS B b (.slice A n c) (vs ++ [(t, u)]) W0 (w2.setCell ⟨b, 0, none⟩ (.slice A n c)) ∧ (∀ k, k < w1.heap.size → k ≠ b → o.ownBlock ≠ some k → (w2.setCell ⟨b, 0, none⟩ (.slice A n c)).heap[k]? = w1.heap[k]?) ∧ w1.heap.size ≤ (w2.setCell ⟨b, 0, none⟩ (.slice A n c)).heap.size := by
  have hra : RdC (w1.alloc ob) b o a v := ((below_one w1 ob).block b hr.lt).trans hr
  have hne : o.ownBlock ≠ some b := ownsRow_other ht.row (fun cur hc => by
    have h' : w1.heap[b]? = some (.cells #[o, a, v] 42 (0, 0)) := hr
    rw [h'] at hc
    injection hc with hc
    injection hc with _ hc
    exact absurd hc (by decide))
  have hr2 : RdC w2 b o a v := (hg.block b hra.lt (fun e => hne e.symm)).trans hra
  have hWa : Below B W0 (w1.alloc ob) := hW.alloc hz _
  have hza : B ≤ (w1.alloc ob).heap.size := by rw [World.size_alloc]; exact Nat.le_succ_of_le hz
  have hW2 : Below B W0 w2 := hWa.grown hg hza (fun k hk => (ht.row.lt k hk).1)
  refine ⟨hr2, ⟨⟨a, v, hr2.put0 _⟩, h2.rows (RowsK.put hr2 0 _), hB, hW2.setCell (p := ⟨b, 0, none⟩) hB _, ?_⟩, fun k hk hkb hko => ?_, ?_⟩
  · have := hg.size
    simp [World.setCell]
    omega
  · rw [Below.heap_setCell _ _ _ k (fun e => hkb (by rw [e])), hg.block k (by rw [World.size_alloc]; exact Nat.lt_succ_of_lt hk) (fun e => hko e.symm)]
    exact (below_one w1 ob).block k hk
  · have := hg.size
    rw [World.size_alloc] at this
    simp [World.setCell]
    omega
set_option maxHeartbeats 4000000 in
theorem endText_any (B b : Nat) (o : Value) (vs : List TokV) (x : List UInt8) (W0 w : World) (h : Rdr B b o vs x W0 w) (hn : vs.length ≤ 1099511627776) :
    Calls Tryz.prog 26 #[.pointer (some ⟨b, 0, none⟩)] w fun e w' => e = .returned (.tuple #[]) ∧ EndP B b o vs x W0 w w' := by
  have HL := hide (lenR_any B b o vs x W0 w h)
  by_cases hx : x = []
  · subst hx
    have HR : Hid (EndP B b o vs [] W0 w w) := hide ⟨o, vs, h, by unfold flushT; rw [if_pos rfl], Nat.le_succ _, Nat.le_refl _, fun k _ _ _ _ => rfl⟩
    clear h
    go_enter Tryz.func26, Tryz.ntmps26
    go_wp2_with fail
    refine HL.out.mono ?_
    rintro e w1 ⟨rfl, rfl⟩
    go_wp2_with fail
    go_end0
    exact ⟨rfl, HR.out⟩
  · obtain ⟨N, hN⟩ : ∃ N, x.length = N := ⟨_, rfl⟩
    have hN0 : 0 < N := by rw [← hN]; exact List.length_pos_iff.2 hx
    rw [hN] at HL
    have g1 : decide ((0 : Int) < (N : Int)) = true := decide_eq_true (by omega)
    have hd : Rdr B b o vs x W0 w.drew := h.kept ((Below.refl _ _).drew)
    have HST := hide (stringR_any B b o vs x W0 w.drew hd hx)
    obtain ⟨a0, v0, hc⟩ := h.cell
    have c0 := hc.cell0
    obtain ⟨X, hX⟩ : ∃ X, str x = X := ⟨_, rfl⟩
    rw [hX] at HST
    have HX := hide hX
    have HXN := hide hx
    have HH := hide h
    have HN := hide hn
    have HN0 := hide hN0
    have HBS := hide (show B ≤ b from h.base)
    clear h hx hN hd hc hX hn hN0
    go_enter Tryz.func26, Tryz.ntmps26
    go_wp2_with fail
    refine HL.out.mono ?_
    rintro e w0 ⟨rfl, rfl⟩
    go_wp2_with fail
    all_goals first | exact absurd HN0.out ‹_› | skip
    go_region_law (first
      | (refine step_toks rfl _ _ rfl B o vs rfl (charsT x) (.slice none 0 0) ⟨(KT.out.alloc _).row, (KT.out.alloc _).each⟩ (World.ownsRow_nil _ B _ 2) ?_ ⟨w1.heap.size, 0, none⟩ rfl (tok_row _ _ _ _ _).1 (tok_row _ _ _ _ _).2.1 (tok_row _ _ _ _ _).2.2.1 ((tok_row _ _ _ _ _).2.2.2.trans (by rw [← HX.out]; rfl)) (by have := HN.out; omega) ?_
         · rw [World.size_alloc]
           exact Nat.le_succ_of_le KZ.out
         intro v2 w2 ht2 hg2
         obtain ⟨A2, n2, c2, rfl⟩ : ∃ A n c, v2 = .slice A n c := ⟨_, _, _, ht2.slice_len.choose_spec.choose_spec⟩
         obtain ⟨r2, s2, k2, z2⟩ := stored KR.out KT.out HBS.out KW.out KZ.out ht2 hg2
         have f2 := r2.free 0
         have d2 := r2.cell0
         have HS2 := hide s2
         have HK2 := hide k2
         have HZ2 := hide z2
         clear r2 s2 k2 z2 ht2 hg2)
      | (go_simp; go_at_call 34; refine HST.out.mono ?_; rintro e w1 ⟨rfl, hs, hz1, hk1⟩; obtain ⟨⟨a1, v1, hr1⟩, ht1, hB1, hW1, hzz⟩ := hs; have d1 := hr1.cell0; have e1 : ∀ ob, (w1.alloc ob).cell? ⟨b, 0, none⟩ = some o := fun ob => RdC.cell0 (((below_one w1 ob).block b hr1.lt).trans hr1); have KR := hide hr1; have KT := hide ht1; have KW := hide hW1; have KZ := hide hzz; have KZ1 := hide hz1; have KK1 := hide hk1; clear hr1 ht1 hB1 hW1 hzz hz1 hk1))
    all_goals
      try go_wp2_with fail
      refine (resetR_any B b _ _ W0 _ HS2.out).mono ?_
      rintro e w3 ⟨rfl, hr3, hz3, hk3⟩
      have HR3 := hide hr3
      have HZ3 := hide hz3
      have HK3 := hide hk3
      clear hr3 hz3 hk3
      try go_wp2_with fail
      go_end0
      refine ⟨rfl, _, _, HR3.out, ?_, ?_, Nat.le_trans KZ1.out (Nat.le_trans HZ2.out HZ3.out), fun k h1 h2 h3 h4 => ?_⟩
      · unfold flushT
        rw [if_neg HXN.out, List.map_append]
        rfl
      · rw [List.length_append]
        exact Nat.le_refl _
      · exact (HK3.out k h2).trans ((HK2.out k (Nat.lt_of_lt_of_le h1 KZ1.out) h2 h3).trans (KK1.out k h4))
theorem storedX {B b : Nat} {o a v : Value} {vs : List TokV} {t : TokL} {u : Value} {x : List UInt8} {W0 w1 w2 : World} {ob : Obj} {A : Option Addr} {n c : Nat} (hr : RdC w1 b o a v) (ht : TRow B o vs w1) (hB : B ≤ b) (hW : Below B W0 w1) (hz : B ≤ w1.heap.size)
    (hv : AdrOK b a ∧ w1.ownsRow B 5 1 v x.length (cellsOf x) ∧ v.ownBlock ≠ some b)
    (h2 : TRow B (.slice A n c) (vs ++ [(t, u)]) w2) (hg : (w1.alloc ob).grownBy w2 o.ownBlock) : Rdr B b (.slice A n c) (vs ++ [(t, u)]) x W0 (w2.setCell ⟨b, 0, none⟩ (.slice A n c)) := by
  obtain ⟨r2, ⟨q1, q2, q3, q4, q5⟩, -, -⟩ := stored hr ht hB hW hz h2 hg
  refine ⟨⟨a, v, r2.put0 _, hv.1, ?_, hv.2.2⟩, q2, q3, q4, q5⟩
  have k1 := hv.2.1.kept (row := none) (World.grownBy_alloc w1 ob none) (by cases hv : v.ownBlock <;> simp)
  have k2 := k1.kept hg (ownsRow_diff (by decide) k1 (ht.alloc ob).row)
  exact k2.kept (row := some b) ⟨rfl, rfl, rfl, by simp [World.setCell], fun k _ hk => Below.heap_setCell _ _ _ k (fun e => hk (by rw [e]))⟩ (.inr hv.2.2)
/-- a token as a value -/
def tokV (t : TokL) (u : Value) : Value := .agg #[.int .i64 (t.kind : Int), .string (str t.name), u, .string (str t.text)]
set_option maxHeartbeats 4000000 in
theorem add_any (B b : Nat) (o : Value) (vs : List TokV) (x : List UInt8) (W0 w : World) (h : Rdr B b o vs x W0 w) (hn : vs.length ≤ 1099511627776) (t : TokL) (u : Value) (hu : w.ownsRow B 35 2 u t.attrs.length (atVals t.attrs)) :
    Calls Tryz.prog 72 #[.pointer (some ⟨b, 0, none⟩), tokV t u] w fun e w' => e = .returned (.tuple #[]) ∧ ∃ o' vs', Rdr B b o' vs' [] W0 w' ∧ vs'.map Prod.fst = flushT (vs.map Prod.fst) x ++ [t] ∧ vs'.length ≤ vs.length + 2 := by
  obtain ⟨A, c, rfl⟩ : ∃ A c, u = .slice A t.attrs.length c := by
    rcases hu.2 with ⟨rfl, h0⟩ | ⟨g, cap, cur, rfl, _⟩
    · rw [h0]; exact ⟨_, _, rfl⟩
    · exact ⟨_, _, rfl⟩
  obtain ⟨bx, hbx⟩ : ∃ bx : Obj, bx = .cells #[.int .i64 (t.kind : Int), .string (str t.name), .slice A t.attrs.length c, .string (str t.text)] 32 := ⟨_, rfl⟩
  have hk := below_one w bx
  have hr := h.kept hk
  have HE := hide (endText_any B b o vs x W0 (w.alloc bx) hr hn)
  obtain ⟨a0, v0, hc0⟩ := hr.cell
  have HU1 : Hid (∀ w', KeptB b o (w.alloc bx) w' → w'.ownsRow B 35 2 (.slice A t.attrs.length c) t.attrs.length (atVals t.attrs)) := hide (fun w' hw => hw.attr (hu.kept (row := none) (World.grownBy_alloc w bx none) (by cases hv : Value.ownBlock (.slice A t.attrs.length c) <;> simp)) hr.toks.row hc0)
  have HBX : Hid (∀ w', KeptB b o (w.alloc bx) w' → w'.heap[w.heap.size]? = some bx) := hide (fun w' hw => by
    have hs : (w.alloc bx).heap[w.heap.size]? = some bx := by show (w.heap.push bx)[w.heap.size]? = some bx; exact Array.getElem?_push_size
    rw [hw.2 w.heap.size (by rw [World.size_alloc]; exact Nat.lt_succ_self _) ?_ ?_ ?_]
    · exact hs
    · intro e
      obtain ⟨a1, v1, h1⟩ := h.cell
      exact absurd h1.lt (by omega)
    · intro e
      exact absurd (h.toks.row.lt _ e).2 (Nat.lt_irrefl _)
    · intro cur fr hh
      rw [hs, hbx] at hh
      injection hh with hh
      injection hh with _ hh
      exact absurd hh (by decide))
  have HBASE := hide h.base
  have HN := hide hn
  clear h hr hc0 hk hu hn
  subst hbx
  unfold tokV
  go_enter Tryz.func72, Tryz.ntmps72
  go_wp2_with fail
  refine HE.out.mono ?_
  rintro e w1 ⟨rfl, o1, vs1, hr1, hm1, hl1, hk1⟩
  have hbx := HBX.out w1 hk1
  have HU := hide (HU1.out w1 hk1)
  obtain ⟨⟨a1, v1, r1, y2, y3, y4⟩, ht1, hB1, hW1, hz1⟩ := hr1
  have d1 := r1.cell0
  have r1d : RdC w1.drew b o1 a1 v1 := r1
  have e1 : ∀ ob, (w1.alloc ob).cell? ⟨b, 0, none⟩ = some o1 := fun ob => RdC.cell0 (((below_one w1 ob).block b r1.lt).trans r1)
  have e2 : ∀ ob, (w1.drew.alloc ob).cell? ⟨b, 0, none⟩ = some o1 := fun ob => RdC.cell0 (((below_one w1.drew ob).block b r1d.lt).trans r1d)
  have t0 : w1.cell? ⟨w.heap.size, 0, none⟩ = some (.int .i64 (t.kind : Int)) := by rw [Lib.cell_of_heap hbx]; rfl
  have t1 : w1.cell? ⟨w.heap.size, 1, none⟩ = some (.string (str t.name)) := by rw [Lib.cell_of_heap hbx]; rfl
  have t2 : w1.cell? ⟨w.heap.size, 2, none⟩ = some (.slice A t.attrs.length c) := by rw [Lib.cell_of_heap hbx]; rfl
  have t3 : w1.cell? ⟨w.heap.size, 3, none⟩ = some (.string (str t.text)) := by rw [Lib.cell_of_heap hbx]; rfl
  have HV := hide (⟨y2, y3, y4⟩ : AdrOK b a1 ∧ w1.drew.ownsRow B 5 1 v1 ([] : List UInt8).length (cellsOf []) ∧ v1.ownBlock ≠ some b)
  have KR := hide r1d
  have KT : Hid (TRow B o1 vs1 w1.drew) := hide ⟨ht1.row, ht1.each⟩
  have KW : Hid (Below B W0 w1.drew) := hide hW1.drew
  have KZ : Hid (B ≤ w1.drew.heap.size) := hide hz1
  have HM := hide hm1
  have HL := hide hl1
  have hud : w1.drew.ownsRow B 35 2 (.slice A t.attrs.length c) t.attrs.length (atVals t.attrs) := HU.out
  have HUA := hide (fun ob => hud.kept (row := none) (World.grownBy_alloc w1.drew ob none) (by cases hv : Value.ownBlock (.slice A t.attrs.length c) <;> simp))
  clear hud r1 r1d y2 y3 y4 ht1 hB1 hW1 hz1 hm1 hl1 hk1 hbx
  go_wp2_with fail
  go_region_law (first
    | (refine step_toks rfl _ _ rfl B o1 vs1 rfl t (.slice A t.attrs.length c) ⟨(KT.out.alloc _).row, (KT.out.alloc _).each⟩ (HUA.out _) ?_ ⟨w1.heap.size, 0, none⟩ rfl (tok_row _ _ _ _ _).1 (tok_row _ _ _ _ _).2.1 (tok_row _ _ _ _ _).2.2.1 (tok_row _ _ _ _ _).2.2.2 (by have := HN.out; have := HL.out; omega) ?_
       · show B ≤ (w1.drew.alloc _).heap.size
         rw [World.size_alloc]
         exact Nat.le_succ_of_le KZ.out
       intro v2 w2 ht2 hg2
       obtain ⟨A2, n2, c2, rfl⟩ : ∃ A n c, v2 = .slice A n c := ⟨_, _, _, ht2.slice_len.choose_spec.choose_spec⟩
       have s2 := storedX KR.out KT.out HBASE.out KW.out KZ.out HV.out ht2 hg2
       have r2 := (stored KR.out KT.out HBASE.out KW.out KZ.out ht2 hg2).1
       have f2 := r2.free 0
       have d2 := r2.cell0
       have HS2 := hide s2
       clear r2 s2 ht2 hg2)
    | fail)
  all_goals
    try go_wp2_with fail
    go_end0
    refine ⟨rfl, _, _, HS2.out, ?_, ?_⟩
    · rw [List.map_append, HM.out]
      rfl
    · rw [List.length_append]
      have := HL.out
      exact Nat.succ_le_succ this
end Go.Proofs.YtmojckphfbcibaaGreatDoor
