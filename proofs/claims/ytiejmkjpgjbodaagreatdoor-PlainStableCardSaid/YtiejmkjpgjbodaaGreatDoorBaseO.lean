/- More of the first texts of this claim in one: each with its own head. No statement is proved here. -/
import Derived.Test.YtiejmkjpgjbodaaGreatDoorBaseN
import Derived.Test.YtiejmkjpgjbodaaGreatDoorBaseM
import Derived.Test.YtiejmkjpgjbodaaGreatDoorShelf
import Derived.Maps.Own
import Derived.Maps.OwnSet
import Derived.Maps.Views
import Derived.Lib.SlTrimSet
import Derived.Shelf.Strings.SlTrimAscii
import Derived.Lib.OthersKept
import Derived.Deep.Cut
namespace Go.Proofs.YtiejmkjpgjbodaaGreatDoor
open Go.RowKit
set_option linter.unusedVariables false
set_option linter.unusedSimpArgs false
set_option maxRecDepth 100000
def KeptB (b : Nat) (o : Value) (w w' : World) : Prop := w.heap.size ≤ w'.heap.size ∧ ∀ k, k < w.heap.size → k ≠ b → o.ownBlock ≠ some k → (∀ cur fr, w.heap[k]? ≠ some (Obj.cells cur 5 fr)) → w'.heap[k]? = w.heap[k]?
theorem KeptB.attr {b : Nat} {o : Value} {w w' : World} {B n : Nat} {u : Value} {xs : List Value} (h : KeptB b o w w') (hr : w.ownsRow B 43 2 u n xs) {bo m : Nat} {ys : List Value} (ho : w.ownsRow bo 51 4 o m ys) {a v p : Value} (hb : RdC w b p a v) : w'.ownsRow B 43 2 u n xs := by
  refine ⟨hr.1, ?_⟩
  rcases hr.2 with h2 | ⟨g, cap, cur, h1, hg, hh, h3⟩
  · exact .inl h2
  · have hlt : g < w.heap.size := lt_of_block hh
    refine .inr ⟨g, cap, cur, h1, hg, (h.2 g hlt ?_ ?_ ?_).trans hh, h3⟩
    · intro e
      have hb' : w.heap[b]? = some (.cells #[p, a, v] 105 (0, 0)) := hb
      rw [← e, hh] at hb'
      injection hb' with hb'
      injection hb' with _ hb'
      exact absurd hb' (by decide)
    · exact ownsRow_other ho (fun cur' hc => by
        rw [hh] at hc
        injection hc with hc
        injection hc with _ hc
        exact absurd hc (by decide))
    · intro cur' fr hc
      rw [hh] at hc
      injection hc with hc
      injection hc with _ hc
      exact absurd hc (by decide)
def EndP (B b : Nat) (o : Value) (vs : List TokV) (x : List UInt8) (W0 w w' : World) : Prop :=
  ∃ o' vs', Rdr B b o' vs' [] W0 w' ∧ vs'.map Prod.fst = flushT (vs.map Prod.fst) x ∧ vs'.length ≤ vs.length + 1 ∧ KeptB b o w w'
theorem Rdr.cell {B b : Nat} {o : Value} {vs : List TokV} {x : List UInt8} {W0 w : World} (h : Rdr B b o vs x W0 w) : ∃ a v, RdC w b o a v := by
  obtain ⟨⟨a, v, h1, _⟩, _⟩ := h
  exact ⟨a, v, h1⟩
theorem tok_row (W : World) (c0 c1 c2 c3 : Value) : (W.alloc (.cells #[c0, c1, c2, c3] 51)).cell? ((⟨W.heap.size, 0, none⟩ : Addr).add 0) = some c0 ∧ (W.alloc (.cells #[c0, c1, c2, c3] 51)).cell? ((⟨W.heap.size, 0, none⟩ : Addr).add 1) = some c1 ∧
    (W.alloc (.cells #[c0, c1, c2, c3] 51)).cell? ((⟨W.heap.size, 0, none⟩ : Addr).add 2) = some c2 ∧ (W.alloc (.cells #[c0, c1, c2, c3] 51)).cell? ((⟨W.heap.size, 0, none⟩ : Addr).add 3) = some c3 := by
  refine ⟨?_, ?_, ?_, ?_⟩ <;> exact (World.cell?_alloc_at _ _ _ _ rfl).trans rfl
theorem below_one (w : World) (o : Obj) : Below w.heap.size w (w.alloc o) := (Below.refl _ _).alloc (Nat.le_refl _) _
theorem stored {B b : Nat} {o a v : Value} {vs : List TokV} {t : TokL} {u : Value} {W0 w1 w2 : World} {ob : Obj} {A : Option Addr} {n c : Nat} (hr : RdC w1 b o a v) (ht : TRow B o vs w1) (hB : B ≤ b) (hW : Below B W0 w1) (hz : B ≤ w1.heap.size)
    (h2 : TRow B (.slice A n c) (vs ++ [(t, u)]) w2) (hg : (w1.alloc ob).grownBy w2 o.ownBlock) : RdC w2 b o a v ∧ RdrS B b (.slice A n c) (vs ++ [(t, u)]) W0 (w2.setCell ⟨b, 0, none⟩ (.slice A n c)) ∧ (∀ k, k < w1.heap.size → k ≠ b → o.ownBlock ≠ some k → (w2.setCell ⟨b, 0, none⟩ (.slice A n c)).heap[k]? = w1.heap[k]?) ∧ w1.heap.size ≤ (w2.setCell ⟨b, 0, none⟩ (.slice A n c)).heap.size := by
  have hra : RdC (w1.alloc ob) b o a v := ((below_one w1 ob).block b hr.lt).trans hr
  have hne : o.ownBlock ≠ some b := ownsRow_other ht.row (fun cur hc => by
    have h' : w1.heap[b]? = some (.cells #[o, a, v] 105 (0, 0)) := hr
    rw [h'] at hc
    injection hc with hc
    injection hc with _ hc
    exact absurd hc (by decide))
  have hr2 : RdC w2 b o a v := (hg.block b hra.lt (fun e => hne e.symm)).trans hra
  have hWa : Below B W0 (w1.alloc ob) := hW.alloc hz _
  have hza : B ≤ (w1.alloc ob).heap.size := by rw [World.size_alloc]; exact Nat.le_succ_of_le hz
  have hW2 : Below B W0 w2 := hWa.grown hg hza (fun k hk => (ht.row.lt k hk).1)
  refine ⟨hr2, ⟨⟨a, v, hr2.put0 _⟩, h2.rows (RowsK.put hr2 0 _), hB, hW2.setCell (p := ⟨b, 0, none⟩) hB _, ?_⟩, fun k hk hkb hko => ?_, ?_⟩
  · have := hg.size
    simp [World.setCell]
    omega
  · rw [Below.heap_setCell _ _ _ k (fun e => hkb (by rw [e])), hg.block k (by rw [World.size_alloc]; exact Nat.lt_succ_of_lt hk) (fun e => hko e.symm)]
    exact (below_one w1 ob).block k hk
  · have := hg.size
    rw [World.size_alloc] at this
    simp [World.setCell]
    omega
set_option maxHeartbeats 4000000 in
theorem endText_any (B b : Nat) (o : Value) (vs : List TokV) (x : List UInt8) (W0 w : World) (h : Rdr B b o vs x W0 w) (hn : vs.length ≤ 1099511627776) :
    Calls Tryz.prog 84 #[.pointer (some ⟨b, 0, none⟩)] w fun e w' => e = .returned (.tuple #[]) ∧ EndP B b o vs x W0 w w' := by
  have HL := hide (lenR_any B b o vs x W0 w h)
  by_cases hx : x = []
  · subst hx
    have HR : Hid (EndP B b o vs [] W0 w w) := hide ⟨o, vs, h, by unfold flushT; rw [if_pos rfl], Nat.le_succ _, Nat.le_refl _, fun k _ _ _ _ => rfl⟩
    clear h
    go_enter Tryz.func84, Tryz.ntmps84
    go_wp2_with fail
    refine HL.out.mono ?_
    rintro e w1 ⟨rfl, rfl⟩
    go_wp2_with fail
    go_end0
    exact ⟨rfl, HR.out⟩
  · obtain ⟨N, hN⟩ : ∃ N, x.length = N := ⟨_, rfl⟩
    have hN0 : 0 < N := by rw [← hN]; exact List.length_pos_iff.2 hx
    rw [hN] at HL
    have g1 : decide ((0 : Int) < (N : Int)) = true := decide_eq_true (by omega)
    have hd : Rdr B b o vs x W0 w.drew := h.kept ((Below.refl _ _).drew)
    have HST := hide (stringR_any B b o vs x W0 w.drew hd hx)
    obtain ⟨a0, v0, hc⟩ := h.cell
    have c0 := hc.cell0
    obtain ⟨X, hX⟩ : ∃ X, str x = X := ⟨_, rfl⟩
    rw [hX] at HST
    have HX := hide hX
    have HXN := hide hx
    have HH := hide h
    have HN := hide hn
    have HN0 := hide hN0
    have HBS := hide (show B ≤ b from h.base)
    clear h hx hN hd hc hX hn hN0
    go_enter Tryz.func84, Tryz.ntmps84
    go_wp2_with fail
    refine HL.out.mono ?_
    rintro e w0 ⟨rfl, rfl⟩
    go_wp2_with fail
    all_goals first | exact absurd HN0.out ‹_› | skip
    go_region_law (first
      | (refine step_toks rfl _ _ rfl B o vs rfl (charsT x) (.slice none 0 0) ⟨(KT.out.alloc _).row, (KT.out.alloc _).each⟩ (World.ownsRow_nil _ B _ 2) ?_ ⟨w1.heap.size, 0, none⟩ rfl (tok_row _ _ _ _ _).1 (tok_row _ _ _ _ _).2.1 (tok_row _ _ _ _ _).2.2.1 ((tok_row _ _ _ _ _).2.2.2.trans (by rw [← HX.out]; rfl)) (by have := HN.out; omega) ?_
         · rw [World.size_alloc]
           exact Nat.le_succ_of_le KZ.out
         intro v2 w2 ht2 hg2
         obtain ⟨A2, n2, c2, rfl⟩ : ∃ A n c, v2 = .slice A n c := ⟨_, _, _, ht2.slice_len.choose_spec.choose_spec⟩
         obtain ⟨r2, s2, k2, z2⟩ := stored KR.out KT.out HBS.out KW.out KZ.out ht2 hg2
         have f2 := r2.free 0
         have d2 := r2.cell0
         have HS2 := hide s2
         have HK2 := hide k2
         have HZ2 := hide z2
         clear r2 s2 k2 z2 ht2 hg2)
      | (go_simp; go_at_call 57; refine HST.out.mono ?_; rintro e w1 ⟨rfl, hs, hz1, hk1⟩; obtain ⟨⟨a1, v1, hr1⟩, ht1, hB1, hW1, hzz⟩ := hs; have d1 := hr1.cell0; have e1 : ∀ ob, (w1.alloc ob).cell? ⟨b, 0, none⟩ = some o := fun ob => RdC.cell0 (((below_one w1 ob).block b hr1.lt).trans hr1); have KR := hide hr1; have KT := hide ht1; have KW := hide hW1; have KZ := hide hzz; have KZ1 := hide hz1; have KK1 := hide hk1; clear hr1 ht1 hB1 hW1 hzz hz1 hk1))
    all_goals
      try go_wp2_with fail
      refine (resetR_any B b _ _ W0 _ HS2.out).mono ?_
      rintro e w3 ⟨rfl, hr3, hz3, hk3⟩
      have HR3 := hide hr3
      have HZ3 := hide hz3
      have HK3 := hide hk3
      clear hr3 hz3 hk3
      try go_wp2_with fail
      go_end0
      refine ⟨rfl, _, _, HR3.out, ?_, ?_, Nat.le_trans KZ1.out (Nat.le_trans HZ2.out HZ3.out), fun k h1 h2 h3 h4 => ?_⟩
      · unfold flushT
        rw [if_neg HXN.out, List.map_append]
        rfl
      · rw [List.length_append]
        exact Nat.le_refl _
      · exact (HK3.out k h2).trans ((HK2.out k (Nat.lt_of_lt_of_le h1 KZ1.out) h2 h3).trans (KK1.out k h4))
theorem storedX {B b : Nat} {o a v : Value} {vs : List TokV} {t : TokL} {u : Value} {x : List UInt8} {W0 w1 w2 : World} {ob : Obj} {A : Option Addr} {n c : Nat} (hr : RdC w1 b o a v) (ht : TRow B o vs w1) (hB : B ≤ b) (hW : Below B W0 w1) (hz : B ≤ w1.heap.size)
    (hv : AdrOK b a ∧ w1.ownsRow B 5 1 v x.length (cellsOf x) ∧ v.ownBlock ≠ some b)
    (h2 : TRow B (.slice A n c) (vs ++ [(t, u)]) w2) (hg : (w1.alloc ob).grownBy w2 o.ownBlock) : Rdr B b (.slice A n c) (vs ++ [(t, u)]) x W0 (w2.setCell ⟨b, 0, none⟩ (.slice A n c)) := by
  obtain ⟨r2, ⟨q1, q2, q3, q4, q5⟩, -, -⟩ := stored hr ht hB hW hz h2 hg
  refine ⟨⟨a, v, r2.put0 _, hv.1, ?_, hv.2.2⟩, q2, q3, q4, q5⟩
  have k1 := hv.2.1.kept (row := none) (World.grownBy_alloc w1 ob none) (by cases hv : v.ownBlock <;> simp)
  have k2 := k1.kept hg (ownsRow_diff (by decide) k1 (ht.alloc ob).row)
  exact k2.kept (row := some b) ⟨rfl, rfl, rfl, by simp [World.setCell], fun k _ hk => Below.heap_setCell _ _ _ k (fun e => hk (by rw [e]))⟩ (.inr hv.2.2)
def tokV (t : TokL) (u : Value) : Value := .agg #[.int .i64 (t.kind : Int), .string (str t.name), u, .string (str t.text)]
set_option maxHeartbeats 4000000 in
theorem add_any (B b : Nat) (o : Value) (vs : List TokV) (x : List UInt8) (W0 w : World) (h : Rdr B b o vs x W0 w) (hn : vs.length ≤ 1099511627776) (t : TokL) (u : Value) (hu : w.ownsRow B 43 2 u t.attrs.length (atVals t.attrs)) :
    Calls Tryz.prog 149 #[.pointer (some ⟨b, 0, none⟩), tokV t u] w fun e w' => e = .returned (.tuple #[]) ∧ ∃ o' vs', Rdr B b o' vs' [] W0 w' ∧ vs'.map Prod.fst = flushT (vs.map Prod.fst) x ++ [t] ∧ vs'.length ≤ vs.length + 2 := by
  obtain ⟨A, c, rfl⟩ : ∃ A c, u = .slice A t.attrs.length c := by
    rcases hu.2 with ⟨rfl, h0⟩ | ⟨g, cap, cur, rfl, _⟩
    · rw [h0]; exact ⟨_, _, rfl⟩
    · exact ⟨_, _, rfl⟩
  obtain ⟨bx, hbx⟩ : ∃ bx : Obj, bx = .cells #[.int .i64 (t.kind : Int), .string (str t.name), .slice A t.attrs.length c, .string (str t.text)] 51 := ⟨_, rfl⟩
  have hk := below_one w bx
  have hr := h.kept hk
  have HE := hide (endText_any B b o vs x W0 (w.alloc bx) hr hn)
  obtain ⟨a0, v0, hc0⟩ := hr.cell
  have HU1 : Hid (∀ w', KeptB b o (w.alloc bx) w' → w'.ownsRow B 43 2 (.slice A t.attrs.length c) t.attrs.length (atVals t.attrs)) := hide (fun w' hw => hw.attr (hu.kept (row := none) (World.grownBy_alloc w bx none) (by cases hv : Value.ownBlock (.slice A t.attrs.length c) <;> simp)) hr.toks.row hc0)
  have HBX : Hid (∀ w', KeptB b o (w.alloc bx) w' → w'.heap[w.heap.size]? = some bx) := hide (fun w' hw => by
    have hs : (w.alloc bx).heap[w.heap.size]? = some bx := by show (w.heap.push bx)[w.heap.size]? = some bx; exact Array.getElem?_push_size
    rw [hw.2 w.heap.size (by rw [World.size_alloc]; exact Nat.lt_succ_self _) ?_ ?_ ?_]
    · exact hs
    · intro e
      obtain ⟨a1, v1, h1⟩ := h.cell
      exact absurd h1.lt (by omega)
    · intro e
      exact absurd (h.toks.row.lt _ e).2 (Nat.lt_irrefl _)
    · intro cur fr hh
      rw [hs, hbx] at hh
      injection hh with hh
      injection hh with _ hh
      exact absurd hh (by decide))
  have HBASE := hide h.base
  have HN := hide hn
  clear h hr hc0 hk hu hn
  subst hbx
  unfold tokV
  go_enter Tryz.func149, Tryz.ntmps149
  go_wp2_with fail
  refine HE.out.mono ?_
  rintro e w1 ⟨rfl, o1, vs1, hr1, hm1, hl1, hk1⟩
  have hbx := HBX.out w1 hk1
  have HU := hide (HU1.out w1 hk1)
  obtain ⟨⟨a1, v1, r1, y2, y3, y4⟩, ht1, hB1, hW1, hz1⟩ := hr1
  have d1 := r1.cell0
  have r1d : RdC w1.drew b o1 a1 v1 := r1
  have e1 : ∀ ob, (w1.alloc ob).cell? ⟨b, 0, none⟩ = some o1 := fun ob => RdC.cell0 (((below_one w1 ob).block b r1.lt).trans r1)
  have e2 : ∀ ob, (w1.drew.alloc ob).cell? ⟨b, 0, none⟩ = some o1 := fun ob => RdC.cell0 (((below_one w1.drew ob).block b r1d.lt).trans r1d)
  have t0 : w1.cell? ⟨w.heap.size, 0, none⟩ = some (.int .i64 (t.kind : Int)) := by rw [Lib.cell_of_heap hbx]; rfl
  have t1 : w1.cell? ⟨w.heap.size, 1, none⟩ = some (.string (str t.name)) := by rw [Lib.cell_of_heap hbx]; rfl
  have t2 : w1.cell? ⟨w.heap.size, 2, none⟩ = some (.slice A t.attrs.length c) := by rw [Lib.cell_of_heap hbx]; rfl
  have t3 : w1.cell? ⟨w.heap.size, 3, none⟩ = some (.string (str t.text)) := by rw [Lib.cell_of_heap hbx]; rfl
  have HV := hide (⟨y2, y3, y4⟩ : AdrOK b a1 ∧ w1.drew.ownsRow B 5 1 v1 ([] : List UInt8).length (cellsOf []) ∧ v1.ownBlock ≠ some b)
  have KR := hide r1d
  have KT : Hid (TRow B o1 vs1 w1.drew) := hide ⟨ht1.row, ht1.each⟩
  have KW : Hid (Below B W0 w1.drew) := hide hW1.drew
  have KZ : Hid (B ≤ w1.drew.heap.size) := hide hz1
  have HM := hide hm1
  have HL := hide hl1
  have hud : w1.drew.ownsRow B 43 2 (.slice A t.attrs.length c) t.attrs.length (atVals t.attrs) := HU.out
  have HUA := hide (fun ob => hud.kept (row := none) (World.grownBy_alloc w1.drew ob none) (by cases hv : Value.ownBlock (.slice A t.attrs.length c) <;> simp))
  clear hud r1 r1d y2 y3 y4 ht1 hB1 hW1 hz1 hm1 hl1 hk1 hbx
  go_wp2_with fail
  go_region_law (first
    | (refine step_toks rfl _ _ rfl B o1 vs1 rfl t (.slice A t.attrs.length c) ⟨(KT.out.alloc _).row, (KT.out.alloc _).each⟩ (HUA.out _) ?_ ⟨w1.heap.size, 0, none⟩ rfl (tok_row _ _ _ _ _).1 (tok_row _ _ _ _ _).2.1 (tok_row _ _ _ _ _).2.2.1 (tok_row _ _ _ _ _).2.2.2 (by have := HN.out; have := HL.out; omega) ?_
       · show B ≤ (w1.drew.alloc _).heap.size
         rw [World.size_alloc]
         exact Nat.le_succ_of_le KZ.out
       intro v2 w2 ht2 hg2
       obtain ⟨A2, n2, c2, rfl⟩ : ∃ A n c, v2 = .slice A n c := ⟨_, _, _, ht2.slice_len.choose_spec.choose_spec⟩
       have s2 := storedX KR.out KT.out HBASE.out KW.out KZ.out HV.out ht2 hg2
       have r2 := (stored KR.out KT.out HBASE.out KW.out KZ.out ht2 hg2).1
       have f2 := r2.free 0
       have d2 := r2.cell0
       have HS2 := hide s2
       clear r2 s2 ht2 hg2)
    | fail)
  all_goals
    try go_wp2_with fail
    go_end0
    refine ⟨rfl, _, _, HS2.out, ?_, ?_⟩
    · rw [List.map_append, HM.out]
      rfl
    · rw [List.length_append]
      have := HL.out
      exact Nat.succ_le_succ this
end Go.Proofs.YtiejmkjpgjbodaaGreatDoor

namespace Go.Proofs.YtiejmkjpgjbodaaGreatDoor
open Go.RowKit
set_option linter.unusedVariables false
set_option linter.unusedSimpArgs false
set_option maxRecDepth 100000
def zeroKid : KidV := ((⟨[], [], []⟩, .nil), (.slice none 0 0, .slice none 0 0))
theorem info_nd14 : (Tryz.prog.info? 33).map (fun i => (i.zero, i.size, i.bytes)) = some (some (.agg #[.string ByteArray.empty, .slice none 0 0, .string ByteArray.empty, .slice none 0 0]), 4, 80) := by kernel_rfl
theorem step_node0 {ops : Array Oper} {o : Oper} {a : Act} {w : World} {K : Act → World → Prop} {Q : Exit → Act → World → Prop} {E : Prop} (hgd : o.guard = none) (s x : Operand)
    (ho : o.op = .call { callee := .builtin .append, args := #[s, x], argTypes := #[23, 23] })
    (B : Nat) (v : Value) (ks : List KidV) (hs : a.eval s = v) (hb : w.ownsRow B 33 4 v ks.length (nodeVals ks)) (hB : B ≤ w.heap.size) (ad : Addr)
    (hx : a.eval x = .slice (some ad) 1 1) (h0 : w.cell? (ad.add 0) = some (.string ⟨#[]⟩)) (h1 : w.cell? (ad.add 1) = some (.slice none 0 0)) (h2 : w.cell? (ad.add 2) = some (.string ⟨#[]⟩)) (h3 : w.cell? (ad.add 3) = some (.slice none 0 0))
    (hlen : ks.length + 1 ≤ 1073741824)
    (h : ∀ g' cap' w', w'.ownsRow B 33 4 (.slice (some ⟨g', 0, none⟩) (ks.length + 1) cap') (ks.length + 1) (nodeVals (ks ++ [zeroKid])) → w.grownBy w' v.ownBlock → (some g' = v.ownBlock ∨ g' = w.heap.size) → ks.length + 1 ≤ cap' → cap' ≤ maxLen →
      K (a.put o.dst (.slice (some ⟨g', 0, none⟩) (ks.length + 1) cap')) w') :
    if Region.wanted o (yielded ops a.tmps) = true then Oper.wp Tryz.prog o a w K Q else E := by
  have hw : Region.wanted o (yielded ops a.tmps) = true := by simp [Region.wanted, hgd]
  rw [if_pos hw]
  obtain ⟨i0, hi, hz0, hz1, hz2⟩ := info_parts info_nd14
  refine wp_append_own2 _ s x 23 ho B 33 i0 (.agg #[.string ByteArray.empty, .slice none 0 0, .string ByteArray.empty, .slice none 0 0]) 4 80 Tryz.underlying23 hi hz0 hz1 hz2 rfl (by decide) v ks.length (nodeVals ks) hs hb ad 1 1 (nodeVals [zeroKid]) hx rfl ?_ ?_ (by unfold maxLen; omega) (by omega) hB ?_
  · intro j u hj
    match j, hj with
    | 0, hj => simp [nodeVals, zeroKid] at hj; subst hj; exact h0
    | 1, hj => simp [nodeVals, zeroKid] at hj; subst hj; exact h1
    | 2, hj => simp [nodeVals, zeroKid] at hj; subst hj; exact h2
    | 3, hj => simp [nodeVals, zeroKid] at hj; subst hj; exact h3
    | (j + 4), hj => simp [nodeVals, zeroKid] at hj
  · intro u hu
    simp [nodeVals, zeroKid] at hu
    rcases hu with rfl | rfl | rfl | rfl <;> rfl
  · intro v' w' ho' hg hor
    rcases ho'.2 with ⟨_, h0⟩ | ⟨g', cap', cur, rfl, _, hh, c1, c2, _⟩
    · cases h0
    · refine h g' cap' w' (by rw [nodeVals_append]; exact ho') hg ?_ c1 c2
      rcases hor with e | e
      · exact .inl e
      · exact .inr (by simpa [Value.ownBlock] using e)
theorem node_stored {w : World} {B g cap : Nat} {ks : List KidV} (h : w.ownsRow B 33 4 (.slice (some ⟨g, 0, none⟩) (ks.length + 1) cap) (ks.length + 1) (nodeVals (ks ++ [zeroKid]))) (q : KidV) :
    (((((w.setCell ⟨g, ks.length * 4, none⟩ (.string (str q.1.1.name))).setCell ⟨g, ks.length * 4 + 1, none⟩ q.2.1).setCell ⟨g, ks.length * 4 + 2, none⟩ (.string (str q.1.1.text))).setCell ⟨g, ks.length * 4 + 3, none⟩ q.2.2)).ownsRow B 33 4 (.slice (some ⟨g, 0, none⟩) (ks.length + 1) cap) (ks.length + 1) (nodeVals (ks ++ [q])) ∧
    (∀ k, k ≠ g → ((((w.setCell ⟨g, ks.length * 4, none⟩ (.string (str q.1.1.name))).setCell ⟨g, ks.length * 4 + 1, none⟩ q.2.1).setCell ⟨g, ks.length * 4 + 2, none⟩ (.string (str q.1.1.text))).setCell ⟨g, ks.length * 4 + 3, none⟩ q.2.2).heap[k]? = w.heap[k]?) := by
  obtain ⟨a1, b1⟩ := h.stored (ks.length * 4) (.string (str q.1.1.name))
  obtain ⟨a2, b2⟩ := a1.stored (ks.length * 4 + 1) q.2.1
  obtain ⟨a3, b3⟩ := a2.stored (ks.length * 4 + 2) (.string (str q.1.1.text))
  obtain ⟨a4, b4⟩ := a3.stored (ks.length * 4 + 3) q.2.2
  refine ⟨?_, fun k hk => ?_⟩
  · have e : ((((nodeVals (ks ++ [zeroKid])).set (ks.length * 4) (.string (str q.1.1.name))).set (ks.length * 4 + 1) q.2.1).set (ks.length * 4 + 2) (.string (str q.1.1.text))).set (ks.length * 4 + 3) q.2.2 = nodeVals (ks ++ [q]) := by
      have hs : ∀ (j : Nat) (zs : List Value) (u : Value), (nodeVals ks ++ zs).set (ks.length * 4 + j) u = nodeVals ks ++ zs.set j u := fun j zs u => by
        rw [List.set_append_right _ _ (by rw [nodeVals_length]; omega), nodeVals_length, show ks.length * 4 + j - ks.length * 4 = j by omega]
      have h0 := hs 0
      rw [Nat.add_zero] at h0
      rw [nodeVals_append, nodeVals_append, h0, hs, hs, hs]
      rfl
    rw [e] at a4
    exact a4
  · have hne : ∀ (W : World) (i : Nat) (u : Value), (W.setCell ⟨g, i, none⟩ u).heap[k]? = W.heap[k]? := fun W i u => Below.heap_setCell W ⟨g, i, none⟩ u k hk
    rw [hne, hne, hne, hne]
theorem node_row (W : World) (c0 c1 c2 c3 : Value) : (W.alloc (.cells #[c0, c1, c2, c3] 33)).cell? ((⟨W.heap.size, 0, none⟩ : Addr).add 0) = some c0 ∧ (W.alloc (.cells #[c0, c1, c2, c3] 33)).cell? ((⟨W.heap.size, 0, none⟩ : Addr).add 1) = some c1 ∧ (W.alloc (.cells #[c0, c1, c2, c3] 33)).cell? ((⟨W.heap.size, 0, none⟩ : Addr).add 2) = some c2 ∧ (W.alloc (.cells #[c0, c1, c2, c3] 33)).cell? ((⟨W.heap.size, 0, none⟩ : Addr).add 3) = some c3 := by
  have h : (W.alloc (.cells #[c0, c1, c2, c3] 33)).heap[W.heap.size]? = some (.cells #[c0, c1, c2, c3] 33 (0, 0)) := by
    show (W.heap.push _)[W.heap.size]? = _
    exact Array.getElem?_push_size
  exact ⟨by rw [Addr.add_lit, Lib.cell_of_heap h]; rfl, by rw [Addr.add_lit, Lib.cell_of_heap h]; rfl, by rw [Addr.add_lit, Lib.cell_of_heap h]; rfl, by rw [Addr.add_lit, Lib.cell_of_heap h]; rfl⟩
theorem app_facts {C : Nat → Prop} {B b g cap : Nat} {p : PartV} {rest : List PartV} {n : Nat} {W0 W : World} (h : BS C B b (.slice (some ⟨g, 0, none⟩) (rest.length + 1) cap) (p :: rest) n W0 W) {g' cap' : Nat} {w2 : World}
    (ho : w2.ownsRow B 33 4 (.slice (some ⟨g', 0, none⟩) (p.kids.length + 1) cap') (p.kids.length + 1) (nodeVals (p.kids ++ [zeroKid]))) (hg : W.grownBy w2 p.kv.ownBlock) (hor : some g' = p.kv.ownBlock ∨ g' = W.heap.size) :
    g' ≠ g ∧ (∀ i, w2.frozen? ⟨g', i, none⟩ = false) ∧ (w2.cell? ⟨g', p.kids.length * 4, none⟩ = some (.string ⟨#[]⟩) ∧ w2.cell? ⟨g', p.kids.length * 4 + 1, none⟩ = some (.slice none 0 0) ∧ w2.cell? ⟨g', p.kids.length * 4 + 2, none⟩ = some (.string ⟨#[]⟩) ∧ w2.cell? ⟨g', p.kids.length * 4 + 3, none⟩ = some (.slice none 0 0)) ∧
    (∀ i, w2.frozen? ⟨g, i, none⟩ = false) ∧ (∀ i, w2.cell? ⟨g, i, none⟩ = W.cell? ⟨g, i, none⟩) := by
  have hk := (h.kids p (List.mem_cons_self ..)).row
  obtain ⟨q1, q2, q3, q4⟩ := h.rowOut
  have hlt : g < W.heap.size := by
    obtain ⟨g0, c0, e, _, _, _, hl⟩ := h.form (by simp)
    injection e with e _ _
    injection e with e
    injection e with e
    rw [e]; exact hl
  have hnk : p.kv.ownBlock ≠ some g := ownsRow_other hk (fun cur => q4 cur _ (by decide))
  have hgg : w2.heap[g]? = W.heap[g]? := hg.block g hlt (fun e => hnk e.symm)
  have hc : ∀ j, j < 4 → w2.cell? ⟨g', p.kids.length * 4 + j, none⟩ = [Value.string ⟨#[]⟩, .slice none 0 0, .string ⟨#[]⟩, .slice none 0 0][j]? := fun j hj => by
    rw [ho.cellAt _ (by omega), nodeVals_append, List.getElem?_append_right (by rw [nodeVals_length]; omega), nodeVals_length, show p.kids.length * 4 + j - p.kids.length * 4 = j by omega]
    rfl
  refine ⟨fun e => ?_, fun i => ho.frozenAt i, ⟨hc 0 (by decide), hc 1 (by decide), hc 2 (by decide), hc 3 (by decide)⟩, fun i => ?_, fun i => World.cell?_of_block hgg⟩
  · rcases hor with e1 | e1
    · exact hnk (by rw [← e1, e])
    · omega
  · rw [World.frozen?_of_block (a := ⟨g, i, none⟩) hgg]
    exact h.cells.2.2.2.2.2 i
theorem BS.kidWritten {C : Nat → Prop} {B b g cap : Nat} {p : PartV} {rest : List PartV} {n : Nat} {W0 W : World} (h : BS C B b (.slice (some ⟨g, 0, none⟩) (rest.length + 1) cap) (p :: rest) n W0 W) {g' cap' : Nat} {w2 : World} {q : KidV}
    (ho : w2.ownsRow B 33 4 (.slice (some ⟨g', 0, none⟩) (p.kids.length + 1) cap') (p.kids.length + 1) (nodeVals (p.kids ++ [zeroKid]))) (hg : W.grownBy w2 p.kv.ownBlock) (hor : some g' = p.kv.ownBlock ∨ g' = W.heap.size)
    (hq : AttrsC C W q.2.1 q.1.1.attrs ∧ NodesC C W q.2.2 q.1.2) :
    BS C B b (.slice (some ⟨g, 0, none⟩) (rest.length + 1) cap) ({ p with kids := p.kids ++ [q], kv := .slice (some ⟨g', 0, none⟩) (p.kids.length + 1) cap' } :: rest) n W0
      (((((w2.setCell ⟨g', p.kids.length * 4, none⟩ (.string (str q.1.1.name))).setCell ⟨g', p.kids.length * 4 + 1, none⟩ q.2.1).setCell ⟨g', p.kids.length * 4 + 2, none⟩ (.string (str q.1.1.text))).setCell ⟨g', p.kids.length * 4 + 3, none⟩ q.2.2).setCell ⟨g, rest.length * 5 + 3, none⟩ (.slice (some ⟨g', 0, none⟩) (p.kids.length + 1) cap')) := by
  obtain ⟨s1, s2⟩ := node_stored ho q
  refine h.pushKid s1 ⟨hg.os, hg.tape, hg.output, by have := hg.size; simpa [World.setCell] using this, fun k hk hne => ?_⟩ (by
    rcases hor with e | e
    · exact .inl e
    · exact .inr (by rw [← e]; rfl)) hq
  rw [s2 k ?_]
  · exact hg.block k hk hne
  · rintro rfl
    rcases hor with e | e
    · exact hne e
    · omega
theorem setCell_comm (w : World) (a b : Addr) (u v : Value) (h : a.block ≠ b.block) : (w.setCell a u).setCell b v = (w.setCell b v).setCell a u := by
  unfold World.setCell
  congr 1
  apply Array.ext_getElem?
  intro i
  simp only [Array.getElem?_modify]
  by_cases h1 : b.block = i
  · have h2 : ¬ a.block = i := fun e => h (e.trans h1.symm)
    simp [h1, h2]
  · simp [h1]
theorem kid_comm (w : World) {g g' : Nat} (h : g ≠ g') (i j0 j1 j2 j3 : Nat) (r v0 v1 v2 v3 : Value) :
    (((((w.setCell ⟨g, i, none⟩ r).setCell ⟨g', j0, none⟩ v0).setCell ⟨g', j1, none⟩ v1).setCell ⟨g', j2, none⟩ v2).setCell ⟨g', j3, none⟩ v3) = (((((w.setCell ⟨g', j0, none⟩ v0).setCell ⟨g', j1, none⟩ v1).setCell ⟨g', j2, none⟩ v2).setCell ⟨g', j3, none⟩ v3).setCell ⟨g, i, none⟩ r) := by
  rw [setCell_comm w ⟨g, i, none⟩ ⟨g', j0, none⟩ r v0 h, setCell_comm _ ⟨g, i, none⟩ ⟨g', j1, none⟩ r v1 h, setCell_comm _ ⟨g, i, none⟩ ⟨g', j2, none⟩ r v2 h, setCell_comm _ ⟨g, i, none⟩ ⟨g', j3, none⟩ r v3 h]
theorem BS.noTail {C : Nat → Prop} {B b g cap : Nat} {p : PartV} {rest : List PartV} {n : Nat} {W0 w : World} (h : BS C B b (.slice (some ⟨g, 0, none⟩) (rest.length + 1) cap) (p :: rest) n W0 w) :
    BS C B b (.slice (some ⟨g, 0, none⟩) (rest.length + 1) cap) ({ p with tail := [], tv := .slice none 0 0 } :: rest) n W0 (w.setCell ⟨g, rest.length * 5 + 4, none⟩ (.slice none 0 0)) := by
  have hk := h.kids _ (List.mem_cons_self ..)
  exact h.putP { p with tail := [], tv := .slice none 0 0 } 4 (.slice none 0 0) (by decide) rfl rfl rfl hk ((List.pairwise_cons.1 h.apart).1) ⟨World.ownsRow_nil _ B _ 1, fun _ => rfl⟩
theorem BS.moreTail {C : Nat → Prop} {B b g cap : Nat} {p : PartV} {rest : List PartV} {n : Nat} {W0 w w2 : World} {tv' : Value} {tl' : List UInt8} (h : BS C B b (.slice (some ⟨g, 0, none⟩) (rest.length + 1) cap) (p :: rest) n W0 w)
    (ho : w2.ownsRow B 5 1 tv' tl'.length (cellsOf tl')) (hg : w.grownBy w2 p.tv.ownBlock) (hn : tl' = [] → tv' = .slice none 0 0) :
    BS C B b (.slice (some ⟨g, 0, none⟩) (rest.length + 1) cap) ({ p with tail := tl', tv := tv' } :: rest) n W0 (w2.setCell ⟨g, rest.length * 5 + 4, none⟩ tv') := by
  have ht := h.tails p (List.mem_cons_self ..)
  have hrest : ∀ q ∈ rest, q.tv = .slice none 0 0 := fun q hq => (h.tails q (List.mem_cons_of_mem _ hq)).2 (h.quiet q hq)
  have hC : ∀ k, C k → k < w.heap.size := fun k hk => (h.typ k hk).1
  have htC : ∀ k, p.tv.ownBlock = some k → ¬ C k := fun k e hc => by
    rcases ht.1.2 with ⟨e0, _⟩ | ⟨g0, c0, cur, e0, _, hh, _⟩
    · rw [e0] at e; cases e
    · rw [e0] at e
      obtain rfl : g0 = k := by simpa [Value.ownBlock] using e
      rcases (h.typ g0 hc).2 _ _ _ hh with e | e
      · exact absurd e (by decide)
      · exact absurd e (by decide)
  have hk : ∀ x, C x → w2.heap[x]? = w.heap[x]? := fun x hx => hg.block x (hC x hx) (fun e => htC x e.symm hx)
  have hown : ∀ {e : TypeId} {sz m : Nat} {v : Value} {xs : List Value}, e ≠ 5 → w.ownsRow B e sz v m xs → w2.ownsRow B e sz v m xs := fun {e sz m v xs} h1 hx => hx.kept hg (ownsRow_diff h1 hx ht.1)
  have hblk : w2.heap[b]? = some (.cells #[.slice (some ⟨g, 0, none⟩) (rest.length + 1) cap, .int .i64 n] 47 (0, 0)) := by
    rw [hg.block b (lt_of_block h.blk) (fun e => (ownsRow_other ht.1 (r := b) (fun cur hb => h.out.2 cur _ (by decide) hb)) e.symm)]
    exact h.blk
  have hrow := hown (by decide) h.row
  have hK : ∀ x ∈ p :: rest, KRow C B x.kv x.kids w2 := fun x hx => ⟨hown (by decide) (h.kids x hx).row, fun y hy => ⟨((h.kids x hx).each y hy).1.mono hk (fun _ x => x), ((h.kids x hx).each y hy).2.mono hk (fun _ x => x)⟩, (h.kids x hx).out⟩
  obtain ⟨r1, hgp⟩ := (show w2.ownsRow B 58 5 (.slice (some ⟨g, 0, none⟩) (rest.length + 1) cap) (rest.length + 1) (partVals (p :: rest).reverse) from hrow).stored (rest.length * 5 + 4) tv'
  have q4 : ∀ (cur : Array Value) (e : TypeId), e ≠ 58 → w2.heap[g]? ≠ some (Obj.cells cur e (0, 0)) := fun cur e h1 hx => by
    rcases hrow.2 with ⟨h0, _⟩ | ⟨g', cap', cur', h0, _, hh, _⟩
    · cases h0
    · injection h0 with h0 _ _
      injection h0 with h0
      injection h0 with h0
      subst h0
      rw [hh] at hx
      injection hx with hx
      injection hx with _ hx
      exact h1 hx.symm
  obtain ⟨q1, q2, q3, _⟩ := h.rowOut
  have hown4 : ∀ {e : TypeId} {sz m : Nat} {v : Value} {xs : List Value}, e ≠ 58 → w2.ownsRow B e sz v m xs → (w2.setCell ⟨g, rest.length * 5 + 4, none⟩ tv').ownsRow B e sz v m xs := fun {e sz m v xs} h1 hx => own_type hx hgp (fun cur => q4 cur e h1)
  have hk4 := same_put (w := w2) (i := rest.length * 5 + 4) (u := tv') q2
  have hk5 : ∀ x, C x → (w2.setCell ⟨g, rest.length * 5 + 4, none⟩ tv').heap[x]? = w.heap[x]? := fun x hx => (hk4 x hx).trans (hk x hx)
  have hrm : ∀ x ∈ rest, x ∈ p :: rest := fun x hx => List.mem_cons_of_mem _ hx
  refine ⟨?_, ?_, ?_, ?_, ?_, ?_, h.quiet, fun x hx => ⟨by have := Nat.lt_of_lt_of_le (hC x hx) hg.size; simpa [World.setCell] using this, by rw [hk5 x hx]; exact (h.typ x hx).2⟩, h.base, (h.below.grown hg h.size (fun k e => (ht.1.lt k e).1)).setCell (p := ⟨g, rest.length * 5 + 4, none⟩) q3 tv', by have := Nat.le_trans h.size hg.size; simpa [World.setCell] using this, (h.since.own ht.1 hg (.inr (.inr (.inr rfl)))).own hrow hgp (.inr (.inl rfl))⟩
  · rw [hgp.block b (lt_of_block hblk) (fun e => q1 (Option.some.inj e).symm)]
    exact hblk
  · rw [List.reverse_cons] at r1 ⊢
    have e1 := partVals_set rest.reverse p 4 (by decide) tv'
    rw [List.length_reverse] at e1
    rw [e1] at r1
    rw [partVals_append]
    exact r1
  · intro x hx
    rcases List.mem_cons.1 hx with rfl | hx
    · exact (h.attrs p (List.mem_cons_self ..)).mono hk5 (fun _ x => x)
    · exact (h.attrs x (hrm x hx)).mono hk5 (fun _ x => x)
  · intro x hx
    have hx2 : ∀ y : PartV, KRow C B y.kv y.kids w2 → KRow C B y.kv y.kids (w2.setCell ⟨g, rest.length * 5 + 4, none⟩ tv') := fun y hy => ⟨hown4 (by decide) hy.row, fun z hz => ⟨(hy.each z hz).1.mono hk4 (fun _ x => x), (hy.each z hz).2.mono hk4 (fun _ x => x)⟩, hy.out⟩
    rcases List.mem_cons.1 hx with rfl | hx
    · exact hx2 p (hK p (List.mem_cons_self ..))
    · exact hx2 x (hK x (hrm x hx))
  · exact List.pairwise_cons.2 ⟨(List.pairwise_cons.1 h.apart).1, (List.pairwise_cons.1 h.apart).2⟩
  · intro x hx
    rcases List.mem_cons.1 hx with rfl | hx
    · exact ⟨hown4 (by decide) ho, hn⟩
    · rw [hrest x hx, h.quiet x hx]
      exact ⟨World.ownsRow_nil _ B _ 1, fun _ => rfl⟩
end Go.Proofs.YtiejmkjpgjbodaaGreatDoor

namespace Go.Proofs.YtiejmkjpgjbodaaGreatDoor
open Go.RowKit
set_option linter.unusedVariables false
set_option linter.unusedSimpArgs false
set_option maxRecDepth 100000
theorem nodesAt_vals {C : Nat → Prop} {w : World} {T : Tr} {a : Addr} (h : NodesAt C w T a) : ∃ qs : List KidV, qs.map Prod.fst = T.list ∧ (∀ (j : Nat) u, (nodeVals qs)[j]? = some u → w.cell? (a.add j) = some u) ∧ ∀ q ∈ qs, AttrsC C w q.2.1 q.1.1.attrs ∧ NodesC C w q.2.2 q.1.2 := by
  induction T generalizing a with
  | nil => exact ⟨[], rfl, fun j u hj => (by simp [nodeVals] at hj), fun q hq => (by cases hq)⟩
  | cons f K R ihk ihr =>
    obtain ⟨h0, h1, h2, ⟨u, h3, h4⟩, ⟨v, h5, h6⟩, h7⟩ := h
    obtain ⟨qs, e1, e2, e3⟩ := ihr h7
    refine ⟨((f, K), (u, v)) :: qs, by rw [List.map_cons, e1]; rfl, fun j x hj => ?_, fun q hq => ?_⟩
    · have e : nodeVals (((f, K), (u, v)) :: qs) = .string (str f.name) :: u :: .string (str f.text) :: v :: nodeVals qs := rfl
      rw [e] at hj
      match j, hj with
      | 0, hj => rw [List.getElem?_cons_zero, Option.some.injEq] at hj; subst hj; rw [Addr.add_zero']; exact h1
      | 1, hj => simp only [List.getElem?_cons_succ, List.getElem?_cons_zero, Option.some.injEq] at hj; subst hj; exact h3
      | 2, hj => simp only [List.getElem?_cons_succ, List.getElem?_cons_zero, Option.some.injEq] at hj; subst hj; exact h2
      | 3, hj => simp only [List.getElem?_cons_succ, List.getElem?_cons_zero, Option.some.injEq] at hj; subst hj; exact h5
      | (j + 4), hj =>
        simp only [List.getElem?_cons_succ] at hj
        have := e2 j x hj
        rw [Addr.add_add] at this
        rw [Nat.add_comm j 4]; exact this
    · rcases List.mem_cons.1 hq with rfl | hq
      · exact ⟨h4, h6⟩
      · exact e3 q hq
theorem nodeVals_one (qs : List KidV) (h : ∀ q ∈ qs, q.2.1.oneCell' = true ∧ q.2.2.oneCell' = true) : ∀ u ∈ nodeVals qs, u.oneCell' = true := by
  intro u hu
  unfold nodeVals at hu
  obtain ⟨q, hq, hu⟩ := List.mem_flatMap.1 hu
  obtain ⟨h1, h2⟩ := h q hq
  simp only [List.mem_cons, List.not_mem_nil, or_false] at hu
  rcases hu with rfl | rfl | rfl | rfl
  · rfl
  · exact h1
  · rfl
  · exact h2
theorem KRow.nil (C : Nat → Prop) (B : Nat) (w : World) : KRow C B (.slice none 0 0) [] w := ⟨World.ownsRow_nil w B _ 4, fun q h => (by cases h), fun g e => (by cases e)⟩
theorem KRow.kept {C : Nat → Prop} {B : Nat} {v : Value} {ks : List KidV} {w w' : World} (h : KRow C B v ks w) (hC : ∀ k, C k → k < w.heap.size) (hb : Below w.heap.size w w') : KRow C B v ks w' :=
  h.turned (row := none) (grown_none hb) hC (fun k e => by cases e) (by cases hv : v.ownBlock <;> simp)
theorem KRow.widen {C C' : Nat → Prop} {B : Nat} {v : Value} {ks : List KidV} {w : World} (h : KRow C B v ks w) (hC : ∀ b, C b → C' b) (ho : ∀ g, v.ownBlock = some g → ¬ C' g) : KRow C' B v ks w :=
  ⟨h.row, fun q hq => ⟨(h.each q hq).1.mono (fun _ _ => rfl) hC, (h.each q hq).2.mono (fun _ _ => rfl) hC⟩, ho⟩
theorem KRow.slice {C : Nat → Prop} {B : Nat} {v : Value} {ks : List KidV} {w : World} (h : KRow C B v ks w) : ∃ A c, v = .slice A ks.length c ∧ ks.length ≤ c := by
  rcases h.row.2 with ⟨rfl, h0⟩ | ⟨g, cap, cur, rfl, _, _, h1, _⟩
  · rw [h0]; exact ⟨_, _, rfl, Nat.zero_le _⟩
  · exact ⟨_, _, rfl, h1⟩
theorem attrsC_one {C : Nat → Prop} {w : World} {v : Value} {l : List AtL} (h : AttrsC C w v l) : v.oneCell' = true := by
  obtain ⟨A, c, rfl⟩ := h.1.form; rfl
theorem nodesC_one {C : Nat → Prop} {w : World} {v : Value} {T : Tr} (h : NodesC C w v T) : v.oneCell' = true := by
  obtain ⟨A, c, rfl⟩ := h.form; rfl
theorem run_append_none (w : World) (ty : TypeId) (A : Option Addr) (n c : Nat) (hn : n ≤ c) :
    (Builtin.append_ #[23, 23] ty #[.slice A n c, .slice none 0 0]).run Tryz.prog w = .ok (.slice A n c) w := by
  obtain ⟨i0, hi, hz0, hz1, hz2⟩ := info_parts info_nd14
  cases A with
  | none => simp [Builtin.append_, run_underlying Tryz.underlying23, sizeOf, typeInfo, hi, Builtin.lenOf, Builtin.firstCells, hn]
  | some a => simp [Builtin.append_, run_underlying Tryz.underlying23, sizeOf, typeInfo, hi, Builtin.lenOf, Builtin.firstCells, hn, storeCells]
theorem wpList_nodes {ops : Array Oper} {rest : List Oper} {o : Oper} {a : Act} {Q : Exit → Act → World → Prop} {w : World} (hgd : o.guard = none) (s x : Operand)
    (ho : o.op = .call { callee := .builtin .append, args := #[s, x], argTypes := #[23, 23] })
    (C : Nat → Prop) (B : Nat) (v : Value) (ks : List KidV) (hs : a.eval s = v) (hk : KRow C B v ks w) (hC : ∀ k, C k → k < w.heap.size) (hB : B ≤ w.heap.size)
    (u : Value) (hx : a.eval x = u) (T : Tr) (hu : NodesC C w u T) (hlen : ks.length + T.len ≤ 1073741824)
    (h : ∀ v' qs w', KRow C B v' (ks ++ qs) w' → qs.map Prod.fst = T.list → w.grownBy w' v.ownBlock → (v'.ownBlock = v.ownBlock ∨ v'.ownBlock = some w.heap.size) → wpList Tryz.prog ops Q rest (a.put o.dst v') w') : wpList Tryz.prog ops Q (o :: rest) a w := by
  obtain ⟨i0, hi, hz0, hz1, hz2⟩ := info_parts info_nd14
  rcases hu with ⟨rfl, rfl⟩ | ⟨ad, cap, rfl, hl1, hl2, hat⟩
  · refine wpList_plain hgd fun K hK => ?_
    obtain ⟨A, c, hv, hnc⟩ := hk.slice
    have hr := run_append_none w o.type A ks.length c hnc
    rw [← hv] at hr
    unfold Oper.wp execOp
    simp only [ho, resolve, invoke, builtin, Sem.run_bind, Sem.run_pure, Result.andThen_ok, List.map_toArray, List.map_cons, List.map_nil, hs, hx, hr]
    exact hK _ _ (h v [] w (by rw [List.append_nil]; exact hk) rfl ⟨rfl, rfl, rfl, Nat.le_refl _, fun _ _ _ => rfl⟩ (.inl rfl))
  · obtain ⟨qs, e1, e2, e3⟩ := nodesAt_vals hat
    have hql : qs.length = T.len := by rw [← Tr.len_list, ← e1, List.length_map]
    refine wpList_append_own2 _ hgd s x 23 ho B 33 i0 (.agg #[.string ByteArray.empty, .slice none 0 0, .string ByteArray.empty, .slice none 0 0]) 4 80 Tryz.underlying23 hi hz0 hz1 hz2 rfl (by decide) v ks.length (nodeVals ks) hs hk.row ad T.len cap (nodeVals qs) hx (by rw [nodeVals_length, hql]) e2 (nodeVals_one qs fun q hq => ⟨attrsC_one (e3 q hq).1, nodesC_one (e3 q hq).2⟩) (by unfold maxLen; omega) (by omega) hB ?_
    intro v' w' ho' hg hor
    refine h v' qs w' ⟨by rw [nodeVals_append, List.length_append, hql]; exact ho', fun q hq => ?_, fun g hg2 hCg => ?_⟩ e1 hg hor
    · have hkk : ∀ b, C b → w'.heap[b]? = w.heap[b]? := fun b hb => hg.block b (hC b hb) (fun e => hk.out b e.symm hb)
      rcases List.mem_append.1 hq with hq | hq
      · exact ⟨(hk.each q hq).1.mono hkk (fun _ x => x), (hk.each q hq).2.mono hkk (fun _ x => x)⟩
      · exact ⟨(e3 q hq).1.mono hkk (fun _ x => x), (e3 q hq).2.mono hkk (fun _ x => x)⟩
    · rcases hor with e | e
      · exact hk.out g (by rw [← e]; exact hg2) hCg
      · rw [e] at hg2
        injection hg2 with hg2
        exact absurd (hC g hCg) (by omega)
theorem Tr.of_app (a b : List (NdH × Tr)) : Tr.of (a ++ b) = (Tr.of a).app (Tr.of b) := by
  apply Tr.list_inj
  rw [Tr.list_app, Tr.list_of, Tr.list_of, Tr.list_of]
end Go.Proofs.YtiejmkjpgjbodaaGreatDoor

namespace Go.Proofs.YtiejmkjpgjbodaaGreatDoor
set_option linter.unusedVariables false
set_option linter.unusedSimpArgs false
theorem tw_of {p : UInt8 → Bool} {m b : List UInt8} {c : UInt8} (h : ∀ x ∈ m, p x = true) (hc : p c = false) : (m ++ c :: b).takeWhile p = m ∧ (m ++ c :: b).dropWhile p = c :: b := by
  induction m with
  | nil => simp [hc]
  | cons a r ih =>
    have ha := h a (List.mem_cons_self ..)
    have := ih (fun x hx => h x (List.mem_cons_of_mem _ hx))
    simp [ha, this.1, this.2]
def attrW (escV : List UInt8 → List UInt8) (a : AtL) : List UInt8 := 32 :: (a.1 ++ 61 :: 34 :: (escV a.2 ++ [34]))
def attrsW (escV : List UInt8 → List UInt8) (A : List AtL) : List UInt8 := A.flatMap (attrW escV)
def tokW (escT escV : List UInt8 → List UInt8) (t : TokL) : List UInt8 :=
  if t.kind = 1 then escT t.text else if t.kind = 2 then 60 :: (t.name ++ (attrsW escV t.attrs ++ [62])) else if t.kind = 3 then 60 :: 47 :: (t.name ++ [62]) else []
theorem alnum_ends (c : UInt8) (h : (letterB c || digitB c) = true) : attrEndB c = false ∧ whs c = false ∧ c ≠ 62 ∧ c ≠ 47 ∧ c ≠ 33 ∧ c ≠ 63 ∧ nameEndB c = false :=
  u8_all (p := fun c => (letterB c || digitB c) = true → (attrEndB c = false ∧ whs c = false ∧ c ≠ 62 ∧ c ≠ 47 ∧ c ≠ 33 ∧ c ≠ 63 ∧ nameEndB c = false)) (by decide +kernel) c h
structure EscOK (dec escT escV : List UInt8 → List UInt8) : Prop where
  t60 : ∀ x, 60 ∉ escT x
  tdec : ∀ x, dec (escT x) = x
  tne : ∀ x, x ≠ [] → escT x ≠ []
  v34 : ∀ x, 34 ∉ escV x
  vdec : ∀ x, dec (escV x) = x
theorem markN_upto {R : List UInt8} (hR : R = [] ∨ isMarkB R = true) : ∀ a : List UInt8, 60 ∉ a → markN (a ++ R) = a.length
  | [], _ => by
    cases R with
    | nil => rfl
    | cons c r =>
      show markN (c :: r) = 0
      unfold markN
      rcases hR with h | h
      · cases h
      · rw [if_pos h]
  | c :: a, h => by
    have hc : c ≠ 60 := fun e => h (by rw [e]; exact List.mem_cons_self ..)
    have hm : isMarkB (c :: (a ++ R)) = false := by
      unfold isMarkB
      split
      · rename_i heq; injection heq with h1 h2; exact absurd h1 hc
      · rfl
    rw [List.cons_append]
    unfold markN
    rw [if_neg (by rw [hm]; decide), markN_upto hR a (fun hm => h (List.mem_cons_of_mem _ hm))]; rfl
theorem mark_start {c : UInt8} (h : letterB c = true) (r : List UInt8) : isMarkB (60 :: c :: r) = true := by
  have := alnum_ends c (by rw [h]; rfl)
  unfold isMarkB
  simp only
  rw [if_neg (fun e => e.elim this.2.2.2.2.1 this.2.2.2.2.2.1), if_neg this.2.2.2.1]
  exact h
theorem markL_start {dec : List UInt8 → List UInt8} {c : UInt8} (h : letterB c = true) (r : List UInt8) : markL dec (c :: r) = startL dec (c :: r) := by
  have := alnum_ends c (by rw [h]; rfl)
  unfold markL
  split
  · rename_i q heq; injection heq with h1 h2; exact absurd h1 this.2.2.2.1
  · rename_i q heq; injection heq with h1 h2; exact absurd h1 this.2.2.2.2.1
  · rename_i q heq; injection heq with h1 h2; exact absurd h1 this.2.2.2.2.2.1
  · rfl
end Go.Proofs.YtiejmkjpgjbodaaGreatDoor

namespace Go.Proofs.YtiejmkjpgjbodaaGreatDoor
open Go.RowKit
set_option linter.unusedVariables false
theorem size0 {t : ByteArray} (h : t.size = 0) : t.data.toList = [] ∧ t.toList.isEmpty = true := by
  have e : t.data.toList = [] := List.eq_nil_of_length_eq_zero (by rw [toList_length]; exact h)
  exact ⟨e, by rw [bytes_list, e]; rfl⟩
theorem sizeP {t : ByteArray} (h : ¬ t.size = 0) : t.data.toList ≠ [] ∧ t.toList.isEmpty = false := by
  have hne : t.data.toList ≠ [] := fun e => by have := toList_length t; rw [e] at this; simp at this; omega
  refine ⟨hne, ?_⟩
  rw [bytes_list]
  cases h : t.data.toList with
  | nil => exact absurd h hne
  | cons _ _ => rfl
theorem or32 (c : UInt8) : bits .or .u8 (c.toNat : Int) 32 = ((c ||| 32).toNat : Int) := u8_all (p := fun c => bits .or .u8 (c.toNat : Int) 32 = ((c ||| 32).toNat : Int)) (by decide +kernel) c
end Go.Proofs.YtiejmkjpgjbodaaGreatDoor

namespace Go.Proofs.YtiejmkjpgjbodaaGreatDoor
open Go.RowKit
set_option linter.unusedVariables false
set_option linter.unusedSimpArgs false
set_option maxRecDepth 100000
def dgV (c : UInt8) : Nat := if 48 ≤ c.toNat ∧ c.toNat ≤ 57 then c.toNat - 48 else if 97 ≤ (c ||| 32).toNat ∧ (c ||| 32).toNat ≤ 122 then (c ||| 32).toNat - 87 else 255
def digB (b : Nat) (c : UInt8) : Option Nat := if dgV c < b then some (dgV c) else none
def parseB (b : Nat) : Nat → List UInt8 → Option Nat
  | n, [] => some n
  | n, c :: r => match digB b c with
    | none => none
    | some d => parseB b (n * b + d) r
def uTup : Option Nat → Value
  | some n => .tuple #[.int .u64 n, .nilIface]
  | none => .tuple #[.int .u64 0, .iface 238 (.int .i64 2)]
theorem par_step {b n d k : Nat} (h : n + 1 ≤ b ^ k) (hd : d < b) : n * b + d + 1 ≤ b ^ (k + 1) := by
  have h1 : (n + 1) * b ≤ b ^ k * b := Nat.mul_le_mul_right b h
  rw [Nat.pow_succ]
  rw [Nat.succ_mul] at h1
  omega
set_option maxHeartbeats 4000000 in
theorem iparse10_any (s : ByteArray) (w : World) (hs : s.size ≤ 8) (h0 : s.size ≠ 0) :
    Calls Tryz.prog 193 #[.string s, .int .i64 10, .int .i64 32] w fun e w' => e = .returned (uTup (parseB 10 0 s.data.toList)) ∧ Below w.heap.size w w' := by
  have hemp : s.toList.isEmpty = false := (sizeP h0).2
  go_enter Tryz.func193, Tryz.ntmps193
  go_wp2_with (refine wpList_bytes rfl _ rfl s rfl ?_; intro cap w0 ha0; have HA0 := hide ha0; clear ha0)
  go_loopw [12, 13, 101] (fun un nv i wr => ∃ k n : Nat, un = .bool false ∧ k ≤ s.size ∧ i = .int .i64 k ∧ nv = .int .u64 n ∧ Hid (n + 1 ≤ 10 ^ k) ∧ Hid (parseB 10 n (s.data.toList.drop k) = parseB 10 0 s.data.toList) ∧ Hid (wr = w0)) (fun _ _ i _ => s.size - (intOf i).toNat)
  case atStart => exact ⟨0, 0, rfl, Nat.zero_le _, rfl, rfl, hide (Nat.le_refl _), hide rfl, hide rfl⟩
  case round =>
    obtain ⟨k, n, rfl, hk, rfl, rfl, HP, HG, HW⟩ := hrel
    obtain rfl := HW.out
    by_cases hlt : k < s.size
    · have hst := HG.out
      rw [drop_cons s k hlt, parseB] at hst
      have c1 : wr.cell? ⟨w.heap.size, k, none⟩ = some (.int .u8 s[k].toNat) := HA0.out.cell k (by rw [toList_length]; exact hlt)
      by_cases g1 : 48 ≤ s[k].toNat ∧ s[k].toNat ≤ 57
      · obtain ⟨d, hd⟩ : ∃ d, s[k].toNat = 48 + d := ⟨s[k].toNat - 48, by omega⟩
        have t1 : decide ((48 : Int) ≤ s[k].toNat) = true := decide_eq_true (by omega)
        have t2 : decide ((s[k].toNat : Int) ≤ 57) = true := decide_eq_true (by omega)
        have t3 : ((s[k].toNat : Int) == 95) = false := beq_eq_false_iff_ne.2 (by omega)
        have wd : IntKind.u8.wrap ((s[k].toNat : Int) - 48) = (d : Int) := by rw [hd]; rw [show ((48 + d : Nat) : Int) - 48 = d by omega]; exact IntWalk.u8_in _ (by omega)
        have hdl : d < 10 := by omega
        have hdb : digB 10 s[k] = some d := by unfold digB dgV; rw [if_pos g1]; rw [if_pos (by omega)]; exact congrArg some (by omega)
        rw [hdb] at hst
        have HN : Hid (parseB 10 (n * 10 + d) (s.data.toList.drop (k + 1)) = parseB 10 0 s.data.toList) := hide hst
        have HB1 : Hid (n * 10 + d + 1 ≤ 10 ^ (k + 1)) := hide (par_step HP.out hdl)
        have hb2 : n * 10 + d + 1 ≤ 4294967296 := Nat.le_trans HB1.out (Nat.le_trans (Nat.pow_le_pow_right (by decide) (by omega : k + 1 ≤ 8)) (by decide))
        have x0 : IntKind.u64.wrap (d : Int) = (d : Int) := IntWalk.u64_in _ (by omega)
        have x1 : IntKind.u64.wrap ((n : Int) * 10) = (n : Int) * 10 := IntWalk.u64_in _ (by omega)
        have x2 : IntKind.u64.wrap ((n : Int) * 10 + (d : Int)) = (n : Int) * 10 + d := IntWalk.u64_in _ (by omega)
        have x3 : decide ((n : Int) * 10 + (d : Int) < (n : Int) * 10) = false := decide_eq_false (by omega)
        have x4 : decide ((4294967295 : Int) < (n : Int) * 10 + (d : Int)) = false := decide_eq_false (by omega)
        have x5 : decide ((10 : Int) ≤ (d : Int)) = false := decide_eq_false (by omega)
        have x6 : decide ((1844674407370955162 : Int) ≤ (n : Int)) = false := decide_eq_false (by omega)
        clear hst hdb hdl hb2
        clear hd g1
        go_wp2_with fail
        go_roundw
        case rel => exact ⟨k + 1, n * 10 + d, rfl, by omega, by go_num, by first | rfl | simp, HB1, HN, by first | exact trivial | exact hide rfl⟩
        case measure => simp [intOf]; omega
      · have t1 : (decide ((48 : Int) ≤ s[k].toNat) && decide ((s[k].toNat : Int) ≤ 57)) = false := by
          cases q1 : decide ((48 : Int) ≤ s[k].toNat) with
          | false => rfl
          | true =>
            have := of_decide_eq_true q1
            rw [Bool.true_and]; exact decide_eq_false (by omega)
        obtain ⟨L, hL⟩ : ∃ L, (s[k] ||| 32).toNat = L := ⟨_, rfl⟩
        have ho : bits .or .u8 (s[k].toNat : Int) 32 = (L : Int) := by rw [or32, hL]
        have HC := hide (fun w1 => Tryz.internal_strconv_lower (s[k].toNat : Int) w1)
        rw [ho] at HC
        have t3 : (decide ((s[k].toNat : Int) = 95)) = decide (s[k].toNat = 95) := by congr 1; exact propext (by omega)
        have hdv : dgV s[k] = if 97 ≤ L ∧ L ≤ 122 then L - 87 else 255 := by unfold dgV; rw [if_neg g1, hL]
        have hLl : L < 256 := by rw [← hL]; exact byte_lt _
        by_cases q1 : (48 : Int) ≤ s[k].toNat
        · have q1' : decide ((48 : Int) ≤ s[k].toNat) = true := decide_eq_true q1
          have q2' : decide ((s[k].toNat : Int) ≤ 57) = false := decide_eq_false (by omega)
          clear t1 t3
          by_cases u : s[k].toNat = 95
          · have u' : ((s[k].toNat : Int) == 95) = true := by rw [beq_iff_eq]; omega
            have hL95 : L = 127 := by rw [← hL, show s[k] = 95 from UInt8.toNat_inj.1 u]; rfl
            have hv : dgV s[k] = 255 := by rw [hdv, if_neg (by omega)]
            have hbad : digB 10 s[k] = none := by unfold digB; rw [hv]; rfl
            rw [hbad] at hst
            have HR : Hid (parseB 10 0 s.data.toList = none) := hide hst.symm
            have l1 : decide ((97 : Int) ≤ L) = true := decide_eq_true (by omega)
            have l2 : decide ((L : Int) ≤ 122) = false := decide_eq_false (by omega)
            clear hst hbad hv hdv hL ho u g1 q1
            go_wp2_with (go_at_call 220; refine (HC.out _).mono ?_; rintro e w1 ⟨rfl, hw1⟩; obtain rfl := hw1.symm)
            go_ret2
            exact ⟨by rw [HR.out]; rfl, HA0.out.below⟩
          have u' : ((s[k].toNat : Int) == 95) = false := beq_eq_false_iff_ne.2 (by omega)
          by_cases l1 : 97 ≤ L
          · have l1' : decide ((97 : Int) ≤ L) = true := decide_eq_true (by omega)
            by_cases l2 : L ≤ 122
            · have l2' : decide ((L : Int) ≤ 122) = true := decide_eq_true (by omega)
              rw [if_pos ⟨l1, l2⟩] at hdv
              obtain ⟨d, hd⟩ : ∃ d, L = 87 + d := ⟨L - 87, by omega⟩
              have y1 : IntKind.u8.wrap ((L : Int) - 97) = ((d - 10 : Nat) : Int) := by rw [show (L : Int) - 97 = ((d - 10 : Nat) : Int) by omega]; exact IntWalk.u8_in _ (by omega)
              have y2 : IntKind.u8.wrap (((d - 10 : Nat) : Int) + 10) = (d : Int) := by rw [show ((d - 10 : Nat) : Int) + 10 = (d : Int) by omega]; exact IntWalk.u8_in _ (by omega)
              by_cases hdl : d < 10
              · clear q1
                have hdb : digB 10 s[k] = some d := by unfold digB; rw [hdv, if_pos (by omega)]; exact congrArg some (by omega)
                rw [hdb] at hst
                have HN : Hid (parseB 10 (n * 10 + d) (s.data.toList.drop (k + 1)) = parseB 10 0 s.data.toList) := hide hst
                have HB1 : Hid (n * 10 + d + 1 ≤ 10 ^ (k + 1)) := hide (par_step HP.out hdl)
                have hb2 : n * 10 + d + 1 ≤ 4294967296 := Nat.le_trans HB1.out (Nat.le_trans (Nat.pow_le_pow_right (by decide) (by omega : k + 1 ≤ 8)) (by decide))
                have x0 : IntKind.u64.wrap (d : Int) = (d : Int) := IntWalk.u64_in _ (by omega)
                have x1 : IntKind.u64.wrap ((n : Int) * 10) = (n : Int) * 10 := IntWalk.u64_in _ (by omega)
                have x2 : IntKind.u64.wrap ((n : Int) * 10 + (d : Int)) = (n : Int) * 10 + d := IntWalk.u64_in _ (by omega)
                have x3 : decide ((n : Int) * 10 + (d : Int) < (n : Int) * 10) = false := decide_eq_false (by omega)
                have x4 : decide ((4294967295 : Int) < (n : Int) * 10 + (d : Int)) = false := decide_eq_false (by omega)
                have x5 : decide ((10 : Int) ≤ (d : Int)) = false := decide_eq_false (by omega)
                have x6 : decide ((1844674407370955162 : Int) ≤ (n : Int)) = false := decide_eq_false (by omega)
                clear hst hdb hdl hb2
                clear hdv hL ho u g1 hd
                go_wp2_with (go_at_call 220; refine (HC.out _).mono ?_; rintro e w1 ⟨rfl, hw1⟩; obtain rfl := hw1.symm)
                go_roundw
                case rel => exact ⟨k + 1, n * 10 + d, rfl, by omega, by go_num, by first | rfl | simp, HB1, HN, by first | exact trivial | exact hide rfl⟩
                case measure => simp [intOf]; omega
              · have hbad : digB 10 s[k] = none := by unfold digB; rw [hdv, if_neg (by omega)]
                rw [hbad] at hst
                have HR : Hid (parseB 10 0 s.data.toList = none) := hide hst.symm
                have x5 : decide ((10 : Int) ≤ (d : Int)) = true := decide_eq_true (by omega)
                clear hst hbad hdv hL ho u g1 q1 hdl hd
                go_wp2_with (go_at_call 220; refine (HC.out _).mono ?_; rintro e w1 ⟨rfl, hw1⟩; obtain rfl := hw1.symm)
                go_ret2
                exact ⟨by rw [HR.out]; rfl, HA0.out.below⟩
            · have l2' : decide ((L : Int) ≤ 122) = false := decide_eq_false (by omega)
              have hv : dgV s[k] = 255 := by rw [hdv, if_neg (by omega)]
              have hbad : digB 10 s[k] = none := by unfold digB; rw [hv]; rfl
              rw [hbad] at hst
              have HR : Hid (parseB 10 0 s.data.toList = none) := hide hst.symm
              clear hst hbad hv hdv hL ho u g1 q1
              go_wp2_with (go_at_call 220; refine (HC.out _).mono ?_; rintro e w1 ⟨rfl, hw1⟩; obtain rfl := hw1.symm)
              go_ret2
              exact ⟨by rw [HR.out]; rfl, HA0.out.below⟩
          · have l1' : decide ((97 : Int) ≤ L) = false := decide_eq_false (by omega)
            have hv : dgV s[k] = 255 := by rw [hdv, if_neg (by omega)]
            have hbad : digB 10 s[k] = none := by unfold digB; rw [hv]; rfl
            rw [hbad] at hst
            have HR : Hid (parseB 10 0 s.data.toList = none) := hide hst.symm
            clear hst hbad hv hdv hL ho u g1 q1
            go_wp2_with (go_at_call 220; refine (HC.out _).mono ?_; rintro e w1 ⟨rfl, hw1⟩; obtain rfl := hw1.symm)
            go_ret2
            exact ⟨by rw [HR.out]; rfl, HA0.out.below⟩
        · have q1' : decide ((48 : Int) ≤ s[k].toNat) = false := decide_eq_false q1
          clear t1 t3
          by_cases u : s[k].toNat = 95
          · have u' : ((s[k].toNat : Int) == 95) = true := by rw [beq_iff_eq]; omega
            have hL95 : L = 127 := by rw [← hL, show s[k] = 95 from UInt8.toNat_inj.1 u]; rfl
            have hv : dgV s[k] = 255 := by rw [hdv, if_neg (by omega)]
            have hbad : digB 10 s[k] = none := by unfold digB; rw [hv]; rfl
            rw [hbad] at hst
            have HR : Hid (parseB 10 0 s.data.toList = none) := hide hst.symm
            have l1 : decide ((97 : Int) ≤ L) = true := decide_eq_true (by omega)
            have l2 : decide ((L : Int) ≤ 122) = false := decide_eq_false (by omega)
            clear hst hbad hv hdv hL ho u g1 q1
            go_wp2_with (go_at_call 220; refine (HC.out _).mono ?_; rintro e w1 ⟨rfl, hw1⟩; obtain rfl := hw1.symm)
            go_ret2
            exact ⟨by rw [HR.out]; rfl, HA0.out.below⟩
          have u' : ((s[k].toNat : Int) == 95) = false := beq_eq_false_iff_ne.2 (by omega)
          by_cases l1 : 97 ≤ L
          · have l1' : decide ((97 : Int) ≤ L) = true := decide_eq_true (by omega)
            by_cases l2 : L ≤ 122
            · have l2' : decide ((L : Int) ≤ 122) = true := decide_eq_true (by omega)
              rw [if_pos ⟨l1, l2⟩] at hdv
              obtain ⟨d, hd⟩ : ∃ d, L = 87 + d := ⟨L - 87, by omega⟩
              have y1 : IntKind.u8.wrap ((L : Int) - 97) = ((d - 10 : Nat) : Int) := by rw [show (L : Int) - 97 = ((d - 10 : Nat) : Int) by omega]; exact IntWalk.u8_in _ (by omega)
              have y2 : IntKind.u8.wrap (((d - 10 : Nat) : Int) + 10) = (d : Int) := by rw [show ((d - 10 : Nat) : Int) + 10 = (d : Int) by omega]; exact IntWalk.u8_in _ (by omega)
              by_cases hdl : d < 10
              · clear q1
                have hdb : digB 10 s[k] = some d := by unfold digB; rw [hdv, if_pos (by omega)]; exact congrArg some (by omega)
                rw [hdb] at hst
                have HN : Hid (parseB 10 (n * 10 + d) (s.data.toList.drop (k + 1)) = parseB 10 0 s.data.toList) := hide hst
                have HB1 : Hid (n * 10 + d + 1 ≤ 10 ^ (k + 1)) := hide (par_step HP.out hdl)
                have hb2 : n * 10 + d + 1 ≤ 4294967296 := Nat.le_trans HB1.out (Nat.le_trans (Nat.pow_le_pow_right (by decide) (by omega : k + 1 ≤ 8)) (by decide))
                have x0 : IntKind.u64.wrap (d : Int) = (d : Int) := IntWalk.u64_in _ (by omega)
                have x1 : IntKind.u64.wrap ((n : Int) * 10) = (n : Int) * 10 := IntWalk.u64_in _ (by omega)
                have x2 : IntKind.u64.wrap ((n : Int) * 10 + (d : Int)) = (n : Int) * 10 + d := IntWalk.u64_in _ (by omega)
                have x3 : decide ((n : Int) * 10 + (d : Int) < (n : Int) * 10) = false := decide_eq_false (by omega)
                have x4 : decide ((4294967295 : Int) < (n : Int) * 10 + (d : Int)) = false := decide_eq_false (by omega)
                have x5 : decide ((10 : Int) ≤ (d : Int)) = false := decide_eq_false (by omega)
                have x6 : decide ((1844674407370955162 : Int) ≤ (n : Int)) = false := decide_eq_false (by omega)
                clear hst hdb hdl hb2
                clear hdv hL ho u g1 hd
                go_wp2_with (go_at_call 220; refine (HC.out _).mono ?_; rintro e w1 ⟨rfl, hw1⟩; obtain rfl := hw1.symm)
                go_roundw
                case rel => exact ⟨k + 1, n * 10 + d, rfl, by omega, by go_num, by first | rfl | simp, HB1, HN, by first | exact trivial | exact hide rfl⟩
                case measure => simp [intOf]; omega
              · have hbad : digB 10 s[k] = none := by unfold digB; rw [hdv, if_neg (by omega)]
                rw [hbad] at hst
                have HR : Hid (parseB 10 0 s.data.toList = none) := hide hst.symm
                have x5 : decide ((10 : Int) ≤ (d : Int)) = true := decide_eq_true (by omega)
                clear hst hbad hdv hL ho u g1 q1 hdl hd
                go_wp2_with (go_at_call 220; refine (HC.out _).mono ?_; rintro e w1 ⟨rfl, hw1⟩; obtain rfl := hw1.symm)
                go_ret2
                exact ⟨by rw [HR.out]; rfl, HA0.out.below⟩
            · have l2' : decide ((L : Int) ≤ 122) = false := decide_eq_false (by omega)
              have hv : dgV s[k] = 255 := by rw [hdv, if_neg (by omega)]
              have hbad : digB 10 s[k] = none := by unfold digB; rw [hv]; rfl
              rw [hbad] at hst
              have HR : Hid (parseB 10 0 s.data.toList = none) := hide hst.symm
              clear hst hbad hv hdv hL ho u g1 q1
              go_wp2_with (go_at_call 220; refine (HC.out _).mono ?_; rintro e w1 ⟨rfl, hw1⟩; obtain rfl := hw1.symm)
              go_ret2
              exact ⟨by rw [HR.out]; rfl, HA0.out.below⟩
          · have l1' : decide ((97 : Int) ≤ L) = false := decide_eq_false (by omega)
            have hv : dgV s[k] = 255 := by rw [hdv, if_neg (by omega)]
            have hbad : digB 10 s[k] = none := by unfold digB; rw [hv]; rfl
            rw [hbad] at hst
            have HR : Hid (parseB 10 0 s.data.toList = none) := hide hst.symm
            clear hst hbad hv hdv hL ho u g1 q1
            go_wp2_with (go_at_call 220; refine (HC.out _).mono ?_; rintro e w1 ⟨rfl, hw1⟩; obtain rfl := hw1.symm)
            go_ret2
            exact ⟨by rw [HR.out]; rfl, HA0.out.below⟩
    · have hk2 : k = s.size := by omega
      have HR : Hid (parseB 10 0 s.data.toList = some n) := hide (by rw [← HG.out, drop_nil s k (by omega)]; rfl)
      clear hk2
      go_wp2_with fail
      go_ret2
      exact ⟨by rw [HR.out]; rfl, HA0.out.below⟩
set_option maxHeartbeats 4000000 in
theorem iparse16_any (s : ByteArray) (w : World) (hs : s.size ≤ 8) (h0 : s.size ≠ 0) :
    Calls Tryz.prog 193 #[.string s, .int .i64 16, .int .i64 32] w fun e w' => e = .returned (uTup (parseB 16 0 s.data.toList)) ∧ Below w.heap.size w w' := by
  have hemp : s.toList.isEmpty = false := (sizeP h0).2
  go_enter Tryz.func193, Tryz.ntmps193
  go_wp2_with (refine wpList_bytes rfl _ rfl s rfl ?_; intro cap w0 ha0; have HA0 := hide ha0; clear ha0)
  go_loopw [12, 13, 101] (fun un nv i wr => ∃ k n : Nat, un = .bool false ∧ k ≤ s.size ∧ i = .int .i64 k ∧ nv = .int .u64 n ∧ Hid (n + 1 ≤ 16 ^ k) ∧ Hid (parseB 16 n (s.data.toList.drop k) = parseB 16 0 s.data.toList) ∧ Hid (wr = w0)) (fun _ _ i _ => s.size - (intOf i).toNat)
  case atStart => exact ⟨0, 0, rfl, Nat.zero_le _, rfl, rfl, hide (Nat.le_refl _), hide rfl, hide rfl⟩
  case round =>
    obtain ⟨k, n, rfl, hk, rfl, rfl, HP, HG, HW⟩ := hrel
    obtain rfl := HW.out
    by_cases hlt : k < s.size
    · have hst := HG.out
      rw [drop_cons s k hlt, parseB] at hst
      have c1 : wr.cell? ⟨w.heap.size, k, none⟩ = some (.int .u8 s[k].toNat) := HA0.out.cell k (by rw [toList_length]; exact hlt)
      by_cases g1 : 48 ≤ s[k].toNat ∧ s[k].toNat ≤ 57
      · obtain ⟨d, hd⟩ : ∃ d, s[k].toNat = 48 + d := ⟨s[k].toNat - 48, by omega⟩
        have t1 : decide ((48 : Int) ≤ s[k].toNat) = true := decide_eq_true (by omega)
        have t2 : decide ((s[k].toNat : Int) ≤ 57) = true := decide_eq_true (by omega)
        have t3 : ((s[k].toNat : Int) == 95) = false := beq_eq_false_iff_ne.2 (by omega)
        have wd : IntKind.u8.wrap ((s[k].toNat : Int) - 48) = (d : Int) := by rw [hd]; rw [show ((48 + d : Nat) : Int) - 48 = d by omega]; exact IntWalk.u8_in _ (by omega)
        have hdl : d < 16 := by omega
        have hdb : digB 16 s[k] = some d := by unfold digB dgV; rw [if_pos g1]; rw [if_pos (by omega)]; exact congrArg some (by omega)
        rw [hdb] at hst
        have HN : Hid (parseB 16 (n * 16 + d) (s.data.toList.drop (k + 1)) = parseB 16 0 s.data.toList) := hide hst
        have HB1 : Hid (n * 16 + d + 1 ≤ 16 ^ (k + 1)) := hide (par_step HP.out hdl)
        have hb2 : n * 16 + d + 1 ≤ 4294967296 := Nat.le_trans HB1.out (Nat.le_trans (Nat.pow_le_pow_right (by decide) (by omega : k + 1 ≤ 8)) (by decide))
        have x0 : IntKind.u64.wrap (d : Int) = (d : Int) := IntWalk.u64_in _ (by omega)
        have x1 : IntKind.u64.wrap ((n : Int) * 16) = (n : Int) * 16 := IntWalk.u64_in _ (by omega)
        have x2 : IntKind.u64.wrap ((n : Int) * 16 + (d : Int)) = (n : Int) * 16 + d := IntWalk.u64_in _ (by omega)
        have x3 : decide ((n : Int) * 16 + (d : Int) < (n : Int) * 16) = false := decide_eq_false (by omega)
        have x4 : decide ((4294967295 : Int) < (n : Int) * 16 + (d : Int)) = false := decide_eq_false (by omega)
        have x5 : decide ((16 : Int) ≤ (d : Int)) = false := decide_eq_false (by omega)
        have x6 : decide ((1152921504606846976 : Int) ≤ (n : Int)) = false := decide_eq_false (by omega)
        clear hst hdb hdl hb2
        clear hd g1
        go_wp2_with fail
        go_roundw
        case rel => exact ⟨k + 1, n * 16 + d, rfl, by omega, by go_num, by first | rfl | simp, HB1, HN, by first | exact trivial | exact hide rfl⟩
        case measure => simp [intOf]; omega
      · have t1 : (decide ((48 : Int) ≤ s[k].toNat) && decide ((s[k].toNat : Int) ≤ 57)) = false := by
          cases q1 : decide ((48 : Int) ≤ s[k].toNat) with
          | false => rfl
          | true =>
            have := of_decide_eq_true q1
            rw [Bool.true_and]; exact decide_eq_false (by omega)
        obtain ⟨L, hL⟩ : ∃ L, (s[k] ||| 32).toNat = L := ⟨_, rfl⟩
        have ho : bits .or .u8 (s[k].toNat : Int) 32 = (L : Int) := by rw [or32, hL]
        have HC := hide (fun w1 => Tryz.internal_strconv_lower (s[k].toNat : Int) w1)
        rw [ho] at HC
        have t3 : (decide ((s[k].toNat : Int) = 95)) = decide (s[k].toNat = 95) := by congr 1; exact propext (by omega)
        have hdv : dgV s[k] = if 97 ≤ L ∧ L ≤ 122 then L - 87 else 255 := by unfold dgV; rw [if_neg g1, hL]
        have hLl : L < 256 := by rw [← hL]; exact byte_lt _
        by_cases q1 : (48 : Int) ≤ s[k].toNat
        · have q1' : decide ((48 : Int) ≤ s[k].toNat) = true := decide_eq_true q1
          have q2' : decide ((s[k].toNat : Int) ≤ 57) = false := decide_eq_false (by omega)
          clear t1 t3
          by_cases u : s[k].toNat = 95
          · have u' : ((s[k].toNat : Int) == 95) = true := by rw [beq_iff_eq]; omega
            have hL95 : L = 127 := by rw [← hL, show s[k] = 95 from UInt8.toNat_inj.1 u]; rfl
            have hv : dgV s[k] = 255 := by rw [hdv, if_neg (by omega)]
            have hbad : digB 16 s[k] = none := by unfold digB; rw [hv]; rfl
            rw [hbad] at hst
            have HR : Hid (parseB 16 0 s.data.toList = none) := hide hst.symm
            have l1 : decide ((97 : Int) ≤ L) = true := decide_eq_true (by omega)
            have l2 : decide ((L : Int) ≤ 122) = false := decide_eq_false (by omega)
            clear hst hbad hv hdv hL ho u g1 q1
            go_wp2_with (go_at_call 220; refine (HC.out _).mono ?_; rintro e w1 ⟨rfl, hw1⟩; obtain rfl := hw1.symm)
            go_ret2
            exact ⟨by rw [HR.out]; rfl, HA0.out.below⟩
          have u' : ((s[k].toNat : Int) == 95) = false := beq_eq_false_iff_ne.2 (by omega)
          by_cases l1 : 97 ≤ L
          · have l1' : decide ((97 : Int) ≤ L) = true := decide_eq_true (by omega)
            by_cases l2 : L ≤ 122
            · have l2' : decide ((L : Int) ≤ 122) = true := decide_eq_true (by omega)
              rw [if_pos ⟨l1, l2⟩] at hdv
              obtain ⟨d, hd⟩ : ∃ d, L = 87 + d := ⟨L - 87, by omega⟩
              have y1 : IntKind.u8.wrap ((L : Int) - 97) = ((d - 10 : Nat) : Int) := by rw [show (L : Int) - 97 = ((d - 10 : Nat) : Int) by omega]; exact IntWalk.u8_in _ (by omega)
              have y2 : IntKind.u8.wrap (((d - 10 : Nat) : Int) + 10) = (d : Int) := by rw [show ((d - 10 : Nat) : Int) + 10 = (d : Int) by omega]; exact IntWalk.u8_in _ (by omega)
              by_cases hdl : d < 16
              · clear q1
                have hdb : digB 16 s[k] = some d := by unfold digB; rw [hdv, if_pos (by omega)]; exact congrArg some (by omega)
                rw [hdb] at hst
                have HN : Hid (parseB 16 (n * 16 + d) (s.data.toList.drop (k + 1)) = parseB 16 0 s.data.toList) := hide hst
                have HB1 : Hid (n * 16 + d + 1 ≤ 16 ^ (k + 1)) := hide (par_step HP.out hdl)
                have hb2 : n * 16 + d + 1 ≤ 4294967296 := Nat.le_trans HB1.out (Nat.le_trans (Nat.pow_le_pow_right (by decide) (by omega : k + 1 ≤ 8)) (by decide))
                have x0 : IntKind.u64.wrap (d : Int) = (d : Int) := IntWalk.u64_in _ (by omega)
                have x1 : IntKind.u64.wrap ((n : Int) * 16) = (n : Int) * 16 := IntWalk.u64_in _ (by omega)
                have x2 : IntKind.u64.wrap ((n : Int) * 16 + (d : Int)) = (n : Int) * 16 + d := IntWalk.u64_in _ (by omega)
                have x3 : decide ((n : Int) * 16 + (d : Int) < (n : Int) * 16) = false := decide_eq_false (by omega)
                have x4 : decide ((4294967295 : Int) < (n : Int) * 16 + (d : Int)) = false := decide_eq_false (by omega)
                have x5 : decide ((16 : Int) ≤ (d : Int)) = false := decide_eq_false (by omega)
                have x6 : decide ((1152921504606846976 : Int) ≤ (n : Int)) = false := decide_eq_false (by omega)
                clear hst hdb hdl hb2
                clear hdv hL ho u g1 hd
                go_wp2_with (go_at_call 220; refine (HC.out _).mono ?_; rintro e w1 ⟨rfl, hw1⟩; obtain rfl := hw1.symm)
                go_roundw
                case rel => exact ⟨k + 1, n * 16 + d, rfl, by omega, by go_num, by first | rfl | simp, HB1, HN, by first | exact trivial | exact hide rfl⟩
                case measure => simp [intOf]; omega
              · have hbad : digB 16 s[k] = none := by unfold digB; rw [hdv, if_neg (by omega)]
                rw [hbad] at hst
                have HR : Hid (parseB 16 0 s.data.toList = none) := hide hst.symm
                have x5 : decide ((16 : Int) ≤ (d : Int)) = true := decide_eq_true (by omega)
                clear hst hbad hdv hL ho u g1 q1 hdl hd
                go_wp2_with (go_at_call 220; refine (HC.out _).mono ?_; rintro e w1 ⟨rfl, hw1⟩; obtain rfl := hw1.symm)
                go_ret2
                exact ⟨by rw [HR.out]; rfl, HA0.out.below⟩
            · have l2' : decide ((L : Int) ≤ 122) = false := decide_eq_false (by omega)
              have hv : dgV s[k] = 255 := by rw [hdv, if_neg (by omega)]
              have hbad : digB 16 s[k] = none := by unfold digB; rw [hv]; rfl
              rw [hbad] at hst
              have HR : Hid (parseB 16 0 s.data.toList = none) := hide hst.symm
              clear hst hbad hv hdv hL ho u g1 q1
              go_wp2_with (go_at_call 220; refine (HC.out _).mono ?_; rintro e w1 ⟨rfl, hw1⟩; obtain rfl := hw1.symm)
              go_ret2
              exact ⟨by rw [HR.out]; rfl, HA0.out.below⟩
          · have l1' : decide ((97 : Int) ≤ L) = false := decide_eq_false (by omega)
            have hv : dgV s[k] = 255 := by rw [hdv, if_neg (by omega)]
            have hbad : digB 16 s[k] = none := by unfold digB; rw [hv]; rfl
            rw [hbad] at hst
            have HR : Hid (parseB 16 0 s.data.toList = none) := hide hst.symm
            clear hst hbad hv hdv hL ho u g1 q1
            go_wp2_with (go_at_call 220; refine (HC.out _).mono ?_; rintro e w1 ⟨rfl, hw1⟩; obtain rfl := hw1.symm)
            go_ret2
            exact ⟨by rw [HR.out]; rfl, HA0.out.below⟩
        · have q1' : decide ((48 : Int) ≤ s[k].toNat) = false := decide_eq_false q1
          clear t1 t3
          by_cases u : s[k].toNat = 95
          · have u' : ((s[k].toNat : Int) == 95) = true := by rw [beq_iff_eq]; omega
            have hL95 : L = 127 := by rw [← hL, show s[k] = 95 from UInt8.toNat_inj.1 u]; rfl
            have hv : dgV s[k] = 255 := by rw [hdv, if_neg (by omega)]
            have hbad : digB 16 s[k] = none := by unfold digB; rw [hv]; rfl
            rw [hbad] at hst
            have HR : Hid (parseB 16 0 s.data.toList = none) := hide hst.symm
            have l1 : decide ((97 : Int) ≤ L) = true := decide_eq_true (by omega)
            have l2 : decide ((L : Int) ≤ 122) = false := decide_eq_false (by omega)
            clear hst hbad hv hdv hL ho u g1 q1
            go_wp2_with (go_at_call 220; refine (HC.out _).mono ?_; rintro e w1 ⟨rfl, hw1⟩; obtain rfl := hw1.symm)
            go_ret2
            exact ⟨by rw [HR.out]; rfl, HA0.out.below⟩
          have u' : ((s[k].toNat : Int) == 95) = false := beq_eq_false_iff_ne.2 (by omega)
          by_cases l1 : 97 ≤ L
          · have l1' : decide ((97 : Int) ≤ L) = true := decide_eq_true (by omega)
            by_cases l2 : L ≤ 122
            · have l2' : decide ((L : Int) ≤ 122) = true := decide_eq_true (by omega)
              rw [if_pos ⟨l1, l2⟩] at hdv
              obtain ⟨d, hd⟩ : ∃ d, L = 87 + d := ⟨L - 87, by omega⟩
              have y1 : IntKind.u8.wrap ((L : Int) - 97) = ((d - 10 : Nat) : Int) := by rw [show (L : Int) - 97 = ((d - 10 : Nat) : Int) by omega]; exact IntWalk.u8_in _ (by omega)
              have y2 : IntKind.u8.wrap (((d - 10 : Nat) : Int) + 10) = (d : Int) := by rw [show ((d - 10 : Nat) : Int) + 10 = (d : Int) by omega]; exact IntWalk.u8_in _ (by omega)
              by_cases hdl : d < 16
              · clear q1
                have hdb : digB 16 s[k] = some d := by unfold digB; rw [hdv, if_pos (by omega)]; exact congrArg some (by omega)
                rw [hdb] at hst
                have HN : Hid (parseB 16 (n * 16 + d) (s.data.toList.drop (k + 1)) = parseB 16 0 s.data.toList) := hide hst
                have HB1 : Hid (n * 16 + d + 1 ≤ 16 ^ (k + 1)) := hide (par_step HP.out hdl)
                have hb2 : n * 16 + d + 1 ≤ 4294967296 := Nat.le_trans HB1.out (Nat.le_trans (Nat.pow_le_pow_right (by decide) (by omega : k + 1 ≤ 8)) (by decide))
                have x0 : IntKind.u64.wrap (d : Int) = (d : Int) := IntWalk.u64_in _ (by omega)
                have x1 : IntKind.u64.wrap ((n : Int) * 16) = (n : Int) * 16 := IntWalk.u64_in _ (by omega)
                have x2 : IntKind.u64.wrap ((n : Int) * 16 + (d : Int)) = (n : Int) * 16 + d := IntWalk.u64_in _ (by omega)
                have x3 : decide ((n : Int) * 16 + (d : Int) < (n : Int) * 16) = false := decide_eq_false (by omega)
                have x4 : decide ((4294967295 : Int) < (n : Int) * 16 + (d : Int)) = false := decide_eq_false (by omega)
                have x5 : decide ((16 : Int) ≤ (d : Int)) = false := decide_eq_false (by omega)
                have x6 : decide ((1152921504606846976 : Int) ≤ (n : Int)) = false := decide_eq_false (by omega)
                clear hst hdb hdl hb2
                clear hdv hL ho u g1 hd
                go_wp2_with (go_at_call 220; refine (HC.out _).mono ?_; rintro e w1 ⟨rfl, hw1⟩; obtain rfl := hw1.symm)
                go_roundw
                case rel => exact ⟨k + 1, n * 16 + d, rfl, by omega, by go_num, by first | rfl | simp, HB1, HN, by first | exact trivial | exact hide rfl⟩
                case measure => simp [intOf]; omega
              · have hbad : digB 16 s[k] = none := by unfold digB; rw [hdv, if_neg (by omega)]
                rw [hbad] at hst
                have HR : Hid (parseB 16 0 s.data.toList = none) := hide hst.symm
                have x5 : decide ((16 : Int) ≤ (d : Int)) = true := decide_eq_true (by omega)
                clear hst hbad hdv hL ho u g1 q1 hdl hd
                go_wp2_with (go_at_call 220; refine (HC.out _).mono ?_; rintro e w1 ⟨rfl, hw1⟩; obtain rfl := hw1.symm)
                go_ret2
                exact ⟨by rw [HR.out]; rfl, HA0.out.below⟩
            · have l2' : decide ((L : Int) ≤ 122) = false := decide_eq_false (by omega)
              have hv : dgV s[k] = 255 := by rw [hdv, if_neg (by omega)]
              have hbad : digB 16 s[k] = none := by unfold digB; rw [hv]; rfl
              rw [hbad] at hst
              have HR : Hid (parseB 16 0 s.data.toList = none) := hide hst.symm
              clear hst hbad hv hdv hL ho u g1 q1
              go_wp2_with (go_at_call 220; refine (HC.out _).mono ?_; rintro e w1 ⟨rfl, hw1⟩; obtain rfl := hw1.symm)
              go_ret2
              exact ⟨by rw [HR.out]; rfl, HA0.out.below⟩
          · have l1' : decide ((97 : Int) ≤ L) = false := decide_eq_false (by omega)
            have hv : dgV s[k] = 255 := by rw [hdv, if_neg (by omega)]
            have hbad : digB 16 s[k] = none := by unfold digB; rw [hv]; rfl
            rw [hbad] at hst
            have HR : Hid (parseB 16 0 s.data.toList = none) := hide hst.symm
            clear hst hbad hv hdv hL ho u g1 q1
            go_wp2_with (go_at_call 220; refine (HC.out _).mono ?_; rintro e w1 ⟨rfl, hw1⟩; obtain rfl := hw1.symm)
            go_ret2
            exact ⟨by rw [HR.out]; rfl, HA0.out.below⟩
    · have hk2 : k = s.size := by omega
      have HR : Hid (parseB 16 0 s.data.toList = some n) := hide (by rw [← HG.out, drop_nil s k (by omega)]; rfl)
      clear hk2
      go_wp2_with fail
      go_ret2
      exact ⟨by rw [HR.out]; rfl, HA0.out.below⟩
def parseU (b : Nat) (l : List UInt8) : Option Nat := if l = [] then none else parseB b 0 l
def UOut (o : Option Nat) (e : Ending) : Prop :=
  match o with
  | some n => e = .returned (.tuple #[.int .u64 n, .nilIface])
  | none => ∃ N : Nat, e = .returned (.tuple #[.int .u64 0, .iface 240 (.pointer (some ⟨N, 0, none⟩))])
theorem iempty10_any (w : World) : Calls Tryz.prog 193 #[.string ⟨#[]⟩, .int .i64 10, .int .i64 32] w (fun e w' => e = .returned (uTup none) ∧ Below w.heap.size w w') := by
  go_enter Tryz.func193, Tryz.ntmps193
  go_wp2_with fail
  go_ret2
  exact ⟨rfl, Below.refl _ _⟩
set_option maxHeartbeats 2000000 in
theorem parse10_any (s : ByteArray) (ev : Value) (w : World) (hs : s.size ≤ 8) (hv : w.cell? ⟨1, 0, none⟩ = some ev) (hev : ev = .nilIface ∨ ∃ te pe, ev = .iface te pe) :
    Calls Tryz.prog 170 #[.string s, .int .i64 10, .int .i64 32] w fun e w' => UOut (parseU 10 s.data.toList) e ∧ Below w.heap.size w w' := by
  have HV := hide hv
  have HEV := hide hev
  have HS := hide hs
  have hlt : 1 < w.heap.size := by
    rcases Nat.lt_or_ge 1 w.heap.size with h1 | h1
    · exact h1
    · simp [World.cell?, Array.getElem?_eq_none h1] at hv
  have HLT := hide hlt
  clear hv hev hlt
  have bad : parseU 10 s.data.toList = none → Calls Tryz.prog 193 #[.string s, .int .i64 10, .int .i64 32] w (fun e w' => e = .returned (uTup none) ∧ Below w.heap.size w w') → Calls Tryz.prog 170 #[.string s, .int .i64 10, .int .i64 32] w fun e w' => UOut (parseU 10 s.data.toList) e ∧ Below w.heap.size w w' := by
    intro hn hc
    have HN := hide hn
    have HC := hide hc
    clear hn hc
    go_enter Tryz.func170, Tryz.ntmps170
    go_wp2_with (first
      | (go_at_call 193; refine HC.out.mono ?_; rintro e w1 ⟨rfl, hb1⟩; rw [show uTup none = .tuple #[.int .u64 0, .iface 238 (.int .i64 2)] from rfl]; have HB1 := hide hb1; clear hb1)
      | (go_at_call 194; refine (Tryz.strconv_toError_syntax _ s 10 32 ev _ (Nat.le_trans HS.out (by decide)) ((HB1.out.cell (p := ⟨1, 0, none⟩) HLT.out).trans HV.out) HEV.out).mono ?_; rintro e w2 ⟨N, rfl, _, _, hb2⟩; have HB2 := hide (HB1.out.trans (hb2.mono HB1.out.size)); clear hb2))
    go_ret2
    rw [HN.out]
    exact ⟨⟨N, rfl⟩, HB2.out⟩
  by_cases h0 : s.size = 0
  · have he : s = ⟨#[]⟩ := ext_list (size0 h0).1
    have hp : parseU 10 s.data.toList = none := by unfold parseU; rw [if_pos (size0 h0).1]
    refine bad hp ?_
    rw [he]
    exact iempty10_any w
  · have hp : parseU 10 s.data.toList = parseB 10 0 s.data.toList := by unfold parseU; rw [if_neg (sizeP h0).1]
    have hc := iparse10_any s w hs h0
    cases hr : parseB 10 0 s.data.toList with
    | none => rw [hr] at hp hc; exact bad hp hc
    | some n =>
      rw [hr] at hp hc
      have HP := hide hp
      have HC := hide hc
      clear hp hc bad hr
      go_enter Tryz.func170, Tryz.ntmps170
      go_wp2_with (go_at_call 193; refine HC.out.mono ?_; rintro e w1 ⟨rfl, hb1⟩; rw [show uTup (some n) = .tuple #[.int .u64 n, .nilIface] from rfl]; have HB1 := hide hb1; clear hb1)
      go_ret2
      rw [HP.out]
      exact ⟨rfl, HB1.out⟩
theorem iempty16_any (w : World) : Calls Tryz.prog 193 #[.string ⟨#[]⟩, .int .i64 16, .int .i64 32] w (fun e w' => e = .returned (uTup none) ∧ Below w.heap.size w w') := by
  go_enter Tryz.func193, Tryz.ntmps193
  go_wp2_with fail
  go_ret2
  exact ⟨rfl, Below.refl _ _⟩
set_option maxHeartbeats 2000000 in
theorem parse16_any (s : ByteArray) (ev : Value) (w : World) (hs : s.size ≤ 8) (hv : w.cell? ⟨1, 0, none⟩ = some ev) (hev : ev = .nilIface ∨ ∃ te pe, ev = .iface te pe) :
    Calls Tryz.prog 170 #[.string s, .int .i64 16, .int .i64 32] w fun e w' => UOut (parseU 16 s.data.toList) e ∧ Below w.heap.size w w' := by
  have HV := hide hv
  have HEV := hide hev
  have HS := hide hs
  have hlt : 1 < w.heap.size := by
    rcases Nat.lt_or_ge 1 w.heap.size with h1 | h1
    · exact h1
    · simp [World.cell?, Array.getElem?_eq_none h1] at hv
  have HLT := hide hlt
  clear hv hev hlt
  have bad : parseU 16 s.data.toList = none → Calls Tryz.prog 193 #[.string s, .int .i64 16, .int .i64 32] w (fun e w' => e = .returned (uTup none) ∧ Below w.heap.size w w') → Calls Tryz.prog 170 #[.string s, .int .i64 16, .int .i64 32] w fun e w' => UOut (parseU 16 s.data.toList) e ∧ Below w.heap.size w w' := by
    intro hn hc
    have HN := hide hn
    have HC := hide hc
    clear hn hc
    go_enter Tryz.func170, Tryz.ntmps170
    go_wp2_with (first
      | (go_at_call 193; refine HC.out.mono ?_; rintro e w1 ⟨rfl, hb1⟩; rw [show uTup none = .tuple #[.int .u64 0, .iface 238 (.int .i64 2)] from rfl]; have HB1 := hide hb1; clear hb1)
      | (go_at_call 194; refine (Tryz.strconv_toError_syntax _ s 16 32 ev _ (Nat.le_trans HS.out (by decide)) ((HB1.out.cell (p := ⟨1, 0, none⟩) HLT.out).trans HV.out) HEV.out).mono ?_; rintro e w2 ⟨N, rfl, _, _, hb2⟩; have HB2 := hide (HB1.out.trans (hb2.mono HB1.out.size)); clear hb2))
    go_ret2
    rw [HN.out]
    exact ⟨⟨N, rfl⟩, HB2.out⟩
  by_cases h0 : s.size = 0
  · have he : s = ⟨#[]⟩ := ext_list (size0 h0).1
    have hp : parseU 16 s.data.toList = none := by unfold parseU; rw [if_pos (size0 h0).1]
    refine bad hp ?_
    rw [he]
    exact iempty16_any w
  · have hp : parseU 16 s.data.toList = parseB 16 0 s.data.toList := by unfold parseU; rw [if_neg (sizeP h0).1]
    have hc := iparse16_any s w hs h0
    cases hr : parseB 16 0 s.data.toList with
    | none => rw [hr] at hp hc; exact bad hp hc
    | some n =>
      rw [hr] at hp hc
      have HP := hide hp
      have HC := hide hc
      clear hp hc bad hr
      go_enter Tryz.func170, Tryz.ntmps170
      go_wp2_with (go_at_call 193; refine HC.out.mono ?_; rintro e w1 ⟨rfl, hb1⟩; rw [show uTup (some n) = .tuple #[.int .u64 n, .nilIface] from rfl]; have HB1 := hide hb1; clear hb1)
      go_ret2
      rw [HP.out]
      exact ⟨rfl, HB1.out⟩
end Go.Proofs.YtiejmkjpgjbodaaGreatDoor

namespace Go.Proofs.YtiejmkjpgjbodaaGreatDoor
open Go.RowKit Go.Maps Go.WideShapes Go.WideMaps
set_option linter.unusedVariables false
set_option linter.unusedSimpArgs false
set_option maxRecDepth 100000
theorem keyedS : Keyed Tryz.prog 9 := string_keyed Tryz.underlying9
theorem zeroR (w : World) : (zeroValue 21).run Tryz.prog w = .ok (.int .i32 0) w := by kernel_rfl
def SMapN (w : World) (b n : Nat) (f : List UInt8 → Option Int) : Prop :=
  ∃ D : DataW Unit, w.ownsMap Tryz.prog 9 (plainElem Tryz.prog 21) b n D ∧ IsMap D ∧
    ∀ s : List UInt8, Maps.has D (.string s) = (f s).isSome ∧ D.atKey (.string s) (.lit (.int .i32 0)) = .lit (.int .i32 ((f s).getD 0))
theorem SMapN.made (w : World) : SMapN (w.alloc (.map #[] 0)) w.heap.size 0 (fun _ => none) :=
  ⟨_, World.ownsMap_made w Tryz.prog _ _, isMap_empty, fun s => ⟨rfl, rfl⟩⟩
theorem SMapN.kept {w w' : World} {b n : Nat} {f : List UInt8 → Option Int} (h : SMapN w b n f) (hb : Below w.heap.size w w') : SMapN w' b n f := by
  obtain ⟨D, h1, h2, h3⟩ := h
  exact ⟨D, h1.kept (row := none) ⟨hb.os, hb.tape, hb.output, hb.size, fun k hk _ => hb.block k hk⟩ (by simp), h2, h3⟩
theorem SMapN.drew {w : World} {b n : Nat} {f : List UInt8 → Option Int} (h : SMapN w b n f) : SMapN w.drew b n f := h
theorem SMapN.lt {w : World} {b n : Nat} {f : List UInt8 → Option Int} (h : SMapN w b n f) : b < w.heap.size := by
  obtain ⟨D, h1, _⟩ := h; exact h1.lt
theorem wpList_sm_insert {ops : Array Oper} {rest : List Oper} {o : Oper} {a : Act} {Q : Exit → Act → World → Prop} {w : World} (hg : o.guard = none) (m x v : Operand) (hop : o.op = Op.insert 132 m x v)
    (w0 : World) (n : Nat) (f : List UInt8 → Option Int) (hm : a.eval m = .map (some w0.heap.size)) (h : SMapN w w0.heap.size n f ∧ Below w0.heap.size w0 w) (hn : n < maxLen) (s : ByteArray) (hs : s.size ≤ maxLen) (c : Int) (hc : (Lit.int .i32 c).wf = true)
    (hx : a.eval x = .string s) (hv : a.eval v = .int .i32 c)
    (hK : ∀ w', (SMapN w' w0.heap.size (n + 1) (fun y => if y = s.data.toList then some c else f y) ∧ Below w0.heap.size w0 w') → wpList Tryz.prog ops Q rest (a.put o.dst undef) w') : wpList Tryz.prog ops Q (o :: rest) a w := by
  obtain ⟨⟨D, h1, h2, h3⟩, hB⟩ := h
  obtain ⟨w', hrun, r1, r2⟩ := h1.update keyedS Tryz.underlying132 hn (keyOf_string_mk Tryz.underlying9 hs) (plainElem_int Tryz.underlying21 hc)
  refine wpList_plain hg fun K' hK' => ?_
  unfold Oper.wp
  simp [execOp, hop, hm, hx, hv, hrun, Result.andThen]
  refine hK' _ _ (hK w' ⟨⟨_, r1, h2.put _ _, fun y => ?_⟩, hB.grown r2 (Nat.le_of_lt h1.lt) (fun k hk => by cases hk; exact Nat.le_refl _)⟩)
  by_cases e : y = s.data.toList
  · subst e
    exact ⟨(has_put_same h2 (show WideAt.IsKeyLit (.string s.data.toList) from trivial) _).trans (by simp), (atKey_put_same h2 (show WideAt.IsKeyLit (.string s.data.toList) from trivial) _ _).trans (by simp)⟩
  · have hne : (Lit.string y) ≠ (Lit.string s.data.toList) := fun h => e (by injection h)
    obtain ⟨g1, g2⟩ := h3 y
    exact ⟨(has_put_other hne _).trans (by simp [g1, e]), (atKey_put_other hne _ _).trans (by simp [g2, e])⟩
theorem wpList_sm_look {ops : Array Oper} {rest : List Oper} {o : Oper} {a : Act} {Q : Exit → Act → World → Prop} {w : World} (hg : o.guard = none) (m x : Operand) (hop : o.op = Op.lookup 132 m x true)
    (b n : Nat) (f : List UInt8 → Option Int) (hm : a.eval m = .map (some b)) (h : SMapN w b n f) (s : ByteArray) (hs : s.size ≤ maxLen) (hx : a.eval x = .string s)
    (hK : wpList Tryz.prog ops Q rest (a.put o.dst (.tuple #[.int .i32 ((f s.data.toList).getD 0), .bool (f s.data.toList).isSome])) w) : wpList Tryz.prog ops Q (o :: rest) a w := by
  obtain ⟨D, h1, h2, h3⟩ := h
  refine wpList_lookup_own_ok_int w hg m x 132 hop 9 21 .i32 keyedS Tryz.underlying132 Tryz.underlying21 (zeroR w) b n D hm h1 _ (.string s.data.toList) hx (keyOf_string_mk Tryz.underlying9 hs) (fun c hc _ => ?_)
  obtain ⟨g1, g2⟩ := h3 s.data.toList
  rw [g2] at hc
  injection hc with hc
  injection hc with _ hc
  rw [g1, ← hc]
  exact hK
end Go.Proofs.YtiejmkjpgjbodaaGreatDoor

namespace Go.Proofs.YtiejmkjpgjbodaaGreatDoor
open Go.RowKit
set_option linter.unusedVariables false
set_option linter.unusedSimpArgs false
set_option maxRecDepth 100000
def putN (f : List UInt8 → Option Int) (k : List UInt8) (c : Int) : List UInt8 → Option Int := fun y => if y = k then some c else f y
def nameN : List UInt8 → Option Int :=
  putN (putN (putN (putN (putN (putN (putN (putN (putN (putN (putN (putN (putN (putN (putN (putN (fun _ => none) [97, 109, 112] 38) [108, 116] 60) [103, 116] 62) [113, 117, 111, 116] 34) [97, 112, 111, 115] 39) [110, 98, 115, 112] 160) [99, 111, 112, 121] 169) [114, 101, 103] 174) [101, 117, 114, 111] 8364) [104, 101, 108, 108, 105, 112] 8230) [110, 100, 97, 115, 104] 8211) [109, 100, 97, 115, 104] 8212) [108, 115, 113, 117, 111] 8216) [114, 115, 113, 117, 111] 8217) [108, 100, 113, 117, 111] 8220) [114, 100, 113, 117, 111] 8221
set_option maxHeartbeats 2000000 in
theorem signs_any (w : World) : Calls Tryz.prog 117 #[] w fun e w' => e = .returned (.map (some w.heap.size)) ∧ SMapN w' w.heap.size 16 nameN ∧ Below w.heap.size w w' := by
  have hst : SMapN (w.alloc (.map #[] 0)) w.heap.size 0 (fun _ => none) ∧ Below w.heap.size w (w.alloc (.map #[] 0)) := ⟨SMapN.made w, (Below.refl _ w).alloc (Nat.le_refl _) _⟩
  have hmm := @run_makeMap Tryz.prog
  go_enter Tryz.func117, Tryz.ntmps117
  go_wp2_with (refine wpList_sm_insert rfl _ _ _ rfl w _ _ rfl hst (by decide) _ (by decide) _ (by decide) rfl rfl ?_; clear hst; intro w1 hst)
  go_ret
  exact ⟨rfl, hst.1, hst.2⟩
end Go.Proofs.YtiejmkjpgjbodaaGreatDoor

namespace Go.Proofs.YtiejmkjpgjbodaaGreatDoor
set_option linter.unusedVariables false
set_option linter.unusedSimpArgs false
theorem vStep_pos' (l : List UInt8) (h : l ≠ []) : 1 ≤ (vStep l).2 ∧ (vStep l).2 ≤ l.length ∧ 1 ≤ (vStep l).1.length ∧ (vStep l).1.length ≤ 3 * (vStep l).2 := by
  have hw := wholeN_le l
  have hl := List.length_pos_iff.2 h
  by_cases hz : wholeN l = 0
  · rw [vStep_zero hz]; simp [bad]; omega
  · rw [vStep_pos rfl hz]; simp; omega
def validL (l : List UInt8) : List UInt8 := if h : l = [] then [] else (vStep l).1 ++ validL (l.drop (vStep l).2)
termination_by l.length
decreasing_by
  have h1 := vStep_pos' l h
  have h2 := List.length_pos_iff.2 h
  rw [List.length_drop]; omega
theorem validL_nil : validL [] = [] := by rw [validL]; simp
theorem validL_cons {l : List UInt8} (h : l ≠ []) : validL l = (vStep l).1 ++ validL (l.drop (vStep l).2) := by rw [validL, dif_neg h]
theorem valid_round {L acc T : List UInt8} (h : acc ++ validL L = T) (hi : L ≠ []) : (acc ++ (vStep L).1) ++ validL (L.drop (vStep L).2) = T := by
  rw [← h, validL_cons hi, List.append_assoc]
def winTab : List Int := [8364, 129, 8218, 402, 8222, 8230, 8224, 8225, 710, 8240, 352, 8249, 338, 141, 381, 143, 144, 8216, 8217, 8220, 8221, 8226, 8211, 8212, 732, 8482, 353, 8250, 339, 157, 382, 376]
def winR (c : UInt8) : Int := if 128 ≤ c.toNat ∧ c.toNat < 160 then winTab.getD (c.toNat - 128) 0 else c.toNat
def winL (l : List UInt8) : List UInt8 := l.flatMap fun c => runeL (winR c)
theorem winL_cons (c : UInt8) (l : List UInt8) : winL (c :: l) = runeL (winR c) ++ winL l := rfl
theorem winR_length (c : UInt8) : (runeL (winR c)).length ≤ 3 :=
  u8_all (p := fun c => (runeL (winR c)).length ≤ 3) (by decide +kernel) c
theorem winR_case (c : UInt8) : (c.toNat < 128 ∧ winR c = c.toNat) ∨ (128 ≤ c.toNat ∧ c.toNat < 160 ∧ winR c = winTab.getD (c.toNat - 128) 0) ∨ (160 ≤ c.toNat ∧ winR c = c.toNat) := by
  unfold winR
  by_cases h : 128 ≤ c.toNat ∧ c.toNat < 160
  · rw [if_pos h]; exact .inr (.inl ⟨h.1, h.2, rfl⟩)
  · rw [if_neg h]
    by_cases h' : c.toNat < 128
    · exact .inl ⟨h', rfl⟩
    · exact .inr (.inr ⟨by omega, rfl⟩)
theorem winR_range (c : UInt8) : 0 ≤ winR c ∧ winR c ≤ 65535 :=
  u8_all (p := fun c => 0 ≤ winR c ∧ winR c ≤ 65535) (by decide +kernel) c
def num (big : Bool) (a b : UInt8) : Nat := if big then 256 * a.toNat + b.toNat else 256 * b.toNat + a.toNat
theorem num_lt (big : Bool) (a b : UInt8) : num big a b < 65536 := by
  have := byte_lt a; have := byte_lt b
  unfold num; split <;> omega
def unitsL (big : Bool) : List UInt8 → List Nat
  | a :: b :: r => num big a b :: unitsL big r
  | _ => []
def pairV (a b : Nat) : Int := 65536 + 1024 * ((a : Int) - 55296) + ((b : Int) - 56320)
def u16 : List Nat → List UInt8
  | a :: b :: r => if 55296 ≤ a ∧ a ≤ 56319 ∧ 56320 ≤ b ∧ b ≤ 57343 then runeL (pairV a b) ++ u16 r else runeL a ++ u16 (b :: r)
  | [a] => runeL a
  | [] => []
def tailL (l : List UInt8) : List UInt8 := if l.length % 2 = 1 then bad else []
def pairsL (big : Bool) (l : List UInt8) : List UInt8 := u16 (unitsL big l) ++ tailL l
def fsT (big : Bool) (x : Nat) : List UInt8 → Int × Nat
  | c :: d :: _ => if 56320 ≤ num big c d ∧ num big c d < 57344 then (pairV x (num big c d), 4) else (65533, 2)
  | _ => (65533, 2)
def fsS (big : Bool) : List UInt8 → Int × Nat
  | a :: b :: r => if num big a b < 55296 ∨ 57344 ≤ num big a b then (num big a b, 2) else if num big a b < 56320 then fsT big (num big a b) r else (65533, 2)
  | _ => (65533, 1)
theorem tailL_drop (l : List UInt8) (k : Nat) (h : 2 * k ≤ l.length) : tailL (l.drop (2 * k)) = tailL l := by
  unfold tailL; rw [List.length_drop, show (l.length - 2 * k) % 2 = l.length % 2 from by omega]
theorem pairs_step (big : Bool) (l : List UInt8) (h : 2 ≤ l.length) : pairsL big l = runeL (fsS big l).1 ++ pairsL big (l.drop (fsS big l).2) ∧ ((fsS big l).2 = 2 ∨ (fsS big l).2 = 4) ∧ (fsS big l).2 ≤ l.length ∧ 0 ≤ (fsS big l).1 ∧ (fsS big l).1 ≤ 1114111 := by
  match l, h with
  | a :: b :: r, h =>
    have hn := num_lt big a b
    have ht2 : tailL ((a :: b :: r).drop 2) = tailL (a :: b :: r) := tailL_drop _ 1 h
    by_cases h1 : num big a b < 55296 ∨ 57344 ≤ num big a b
    · have e : fsS big (a :: b :: r) = (((num big a b : Nat) : Int), 2) := by rw [fsS, if_pos h1]
      rw [e]
      refine ⟨?_, .inl rfl, h, by show (0 : Int) ≤ _; omega, by show ((num big a b : Nat) : Int) ≤ _; omega⟩
      unfold pairsL
      rw [ht2, ← List.append_assoc]
      congr 1
      show u16 (num big a b :: unitsL big r) = runeL _ ++ u16 (unitsL big r)
      cases unitsL big r with
      | nil => simp [u16]
      | cons y t => rw [u16, if_neg (by omega)]
    · by_cases h2 : num big a b < 56320
      · match r with
        | c :: d :: r =>
          have hm := num_lt big c d
          by_cases h3 : 56320 ≤ num big c d ∧ num big c d < 57344
          · have e : fsS big (a :: b :: c :: d :: r) = (pairV (num big a b) (num big c d), 4) := by rw [fsS, if_neg h1, if_pos h2, fsT, if_pos h3]
            rw [e]
            refine ⟨?_, .inr rfl, by simp, by show 0 ≤ pairV _ _; unfold pairV; omega, by show pairV _ _ ≤ _; unfold pairV; omega⟩
            have ht4 : tailL ((a :: b :: c :: d :: r).drop 4) = tailL (a :: b :: c :: d :: r) := tailL_drop _ 2 (by simp)
            unfold pairsL
            rw [ht4, ← List.append_assoc]
            congr 1
            show u16 (num big a b :: num big c d :: unitsL big r) = runeL _ ++ u16 (unitsL big r)
            rw [u16, if_pos (by omega)]
          · have e : fsS big (a :: b :: c :: d :: r) = (65533, 2) := by rw [fsS, if_neg h1, if_pos h2, fsT, if_neg h3]
            rw [e]
            refine ⟨?_, .inl rfl, h, by decide, by decide⟩
            unfold pairsL
            rw [ht2, ← List.append_assoc]
            congr 1
            show u16 (num big a b :: num big c d :: unitsL big r) = runeL _ ++ u16 (num big c d :: unitsL big r)
            rw [u16, if_neg (by omega), runeL_bad', runeL_bad (by omega)]
        | [] =>
          have e : fsS big [a, b] = (65533, 2) := by rw [fsS, if_neg h1, if_pos h2]; rfl
          rw [e]
          refine ⟨?_, .inl rfl, h, by decide, by decide⟩
          unfold pairsL
          rw [ht2, ← List.append_assoc]
          congr 1
          show u16 [num big a b] = runeL _ ++ u16 []
          rw [u16, u16, List.append_nil, runeL_bad', runeL_bad (by omega)]
        | [c] =>
          have e : fsS big [a, b, c] = (65533, 2) := by rw [fsS, if_neg h1, if_pos h2]; rfl
          rw [e]
          refine ⟨?_, .inl rfl, h, by decide, by decide⟩
          unfold pairsL
          rw [ht2, ← List.append_assoc]
          congr 1
          show u16 [num big a b] = runeL _ ++ u16 []
          rw [u16, u16, List.append_nil, runeL_bad', runeL_bad (by omega)]
      · have e : fsS big (a :: b :: r) = (65533, 2) := by rw [fsS, if_neg h1, if_neg h2]
        rw [e]
        refine ⟨?_, .inl rfl, h, by decide, by decide⟩
        unfold pairsL
        rw [ht2, ← List.append_assoc]
        congr 1
        show u16 (num big a b :: unitsL big r) = runeL _ ++ u16 (unitsL big r)
        rw [runeL_bad']
        cases unitsL big r with
        | nil => rw [u16, u16, List.append_nil, runeL_bad (by omega)]
        | cons y t => rw [u16, if_neg (by omega), runeL_bad (by omega)]
theorem pairs_short (big : Bool) (l : List UInt8) (h : l.length < 2) : pairsL big l = if l.length = 1 then bad else [] := by
  match l, h with
  | [], _ => rfl
  | [a], _ => rfl
def cleanL (l : List UInt8) : List UInt8 := lowL (Lib.trimS l whiteSet)
def labels : List (List UInt8) :=
  [[117, 116, 102, 45, 56], [117, 116, 102, 56], [117, 110, 105, 99, 111, 100, 101, 45, 49, 45, 49, 45, 117, 116, 102, 45, 56],
   [119, 105, 110, 100, 111, 119, 115, 45, 49, 50, 53, 50], [99, 112, 49, 50, 53, 50], [117, 115, 45, 97, 115, 99, 105, 105], [97, 115, 99, 105, 105], [105, 115, 111, 45, 56, 56, 53, 57, 45, 49], [105, 115, 111, 56, 56, 53, 57, 45, 49], [108, 97, 116, 105, 110, 49], [108, 49],
   [117, 116, 102, 45, 49, 54, 108, 101], [117, 116, 102, 45, 49, 54], [117, 110, 105, 99, 111, 100, 101], [117, 99, 115, 45, 50],
   [117, 116, 102, 45, 49, 54, 98, 101], [117, 110, 105, 99, 111, 100, 101, 102, 102, 102, 101]]
def kindOf (x : List UInt8) : Nat := if labels.idxOf x < 3 then 1 else if labels.idxOf x < 11 then 2 else if labels.idxOf x < 15 then 3 else if labels.idxOf x < 17 then 4 else 0
def kindL (l : List UInt8) : Nat := kindOf (cleanL l)
def nameL : Nat → List UInt8
  | 1 => [117, 116, 102, 45, 56]
  | 2 => [119, 105, 110, 100, 111, 119, 115, 45, 49, 50, 53, 50]
  | 3 => [117, 116, 102, 45, 49, 54, 108, 101]
  | 4 => [117, 116, 102, 45, 49, 54, 98, 101]
  | _ => []
theorem kind_lt (l : List UInt8) : kindL l < 5 := by
  unfold kindL kindOf; repeat' split
  all_goals omega
def knownV (k : Nat) : Value := .tuple #[.string (str (nameL k)), .bool (decide (0 < k))]
def decodeL (k : Nat) (l : List UInt8) : List UInt8 := if k = 2 then winL l else if k = 3 then pairsL false l else if k = 4 then pairsL true l else validL l
end Go.Proofs.YtiejmkjpgjbodaaGreatDoor

namespace Go.Proofs.YtiejmkjpgjbodaaGreatDoor
open Go.RowKit
set_option linter.unusedVariables false
set_option linter.unusedSimpArgs false
theorem dropWhile_le (p : UInt8 → Bool) (l : List UInt8) : (l.dropWhile p).length ≤ l.length := (List.dropWhile_sublist (l := l) p).length_le
theorem trimS_length (l cs : List UInt8) : (Lib.trimS l cs).length ≤ l.length := by
  unfold Lib.trimS Lib.trimLeftS Lib.trimRightS
  have h1 := dropWhile_le (fun x => cs.contains x) ((l.reverse.dropWhile fun x => cs.contains x).reverse)
  have h2 := dropWhile_le (fun x => cs.contains x) l.reverse
  rw [List.length_reverse] at h1 h2
  omega
theorem kind_none {x : List UInt8} (h : ∀ y ∈ labels, x ≠ y) : kindOf x = 0 := by
  have e : labels.idxOf x = 17 := by
    have : x ∉ labels := fun hm => h x hm rfl
    rw [List.idxOf_eq_length this]; rfl
  unfold kindOf; rw [e]; rfl
theorem listT {X : ByteArray} {x y : List UInt8} (hX : X = str x) (h : x = y) : (X.toList == y) = true := by
  rw [hX, str_list, h]; simp
theorem listF {X : ByteArray} {x y : List UInt8} (hX : X = str x) (h : x ≠ y) : (X.toList == y) = false := by
  rw [hX, str_list]; simp [h]
end Go.Proofs.YtiejmkjpgjbodaaGreatDoor

namespace Go.Proofs.YtiejmkjpgjbodaaGreatDoor
open Go.RowKit
set_option linter.unusedVariables false
set_option linter.unusedSimpArgs false
theorem trim_any (s : ByteArray) (w : World) (hs : s.size ≤ maxLen) :
    Calls Tryz.prog 248 #[.string s, .string ⟨#[32, 9, 10, 12, 13]⟩] w fun e w' => e = .returned (.string (str (Lib.trimS s.data.toList whiteSet))) ∧ Below w.heap.size w w' :=
  Any.strings_Trim_laid Tryz.lays160 (by kernel_rfl) s ⟨#[32, 9, 10, 12, 13]⟩ w (by unfold maxLen at hs; omega) (by decide) (ascii_of_all (by decide))
end Go.Proofs.YtiejmkjpgjbodaaGreatDoor

namespace Go.Proofs.YtiejmkjpgjbodaaGreatDoor
open Go.RowKit
set_option linter.unusedVariables false
set_option linter.unusedSimpArgs false
def IterKept (w w' : World) : Prop := ∀ (b : Nat) (s : ByteArray) (p : Nat), w.heap[b]? = some (Obj.stringIter s p) → w'.heap[b]? = some (Obj.stringIter s p)
theorem buf_not_iter {B : Nat} {v : Value} {l : List UInt8} {W0 w : World} (h : Buf B v l W0 w) {b : Nat} {s : ByteArray} {p : Nat} (hb : w.heap[b]? = some (Obj.stringIter s p)) : v.ownBlock ≠ some b := by
  rcases h.1.2 with ⟨rfl, _⟩ | ⟨g, cap, cur, rfl, _, hh, _⟩
  · simp [Value.ownBlock]
  · intro he
    have e : g = b := by simpa [Value.ownBlock] using he
    subst e
    rw [hh] at hb; cases hb
theorem iter_own {B : Nat} {v : Value} {l : List UInt8} {W0 w w' : World} (h : Buf B v l W0 w) (hg : w.grownBy w' v.ownBlock) : IterKept w w' := fun b s p hb =>
  (hg.block b (Array.getElem?_eq_some_iff.1 hb).1 (fun e => buf_not_iter h hb e.symm)).trans hb
theorem appendRune_any (B : Nat) (v : Value) (l : List UInt8) (W0 w : World) (hb : Buf B v l W0 w) (r : Int) (h0 : 0 ≤ r) (h1 : r ≤ 1114111) (hl : l.length ≤ 70368744177664) :
    Calls Tryz.prog 147 #[v, .int .i32 r] w fun e w' => ∃ v', e = .returned v' ∧ Buf B v' (l ++ runeL r) W0 w' ∧ IterKept w w' := by
  refine (Tryz.utf8_AppendRune_plain B v l.length (cellsOf l) r (by omega) (by omega) w hb.1 (by omega) hb.2.2).mono ?_
  rintro e w' ⟨v', rfl, ho, o, hg⟩
  have hb' := hb.alloc o
  refine ⟨v', rfl, hb'.grown (l' := l ++ runeL r) ?_ hg, fun b s p hx => iter_own hb' hg b s p ?_⟩
  · have e : Lib.runeCells r = cellsOf (runeL r) := (Lib.byteCells_encodeRune r).symm
    have e2 : (Lib.runeCells r).length = (runeL r).length := by rw [e, cellsOf_length]
    rw [e2, e] at ho
    rw [List.length_append, cellsOf, List.map_append]
    exact ho
  · exact (Below.heap_alloc w o b (Array.getElem?_eq_some_iff.1 hx).1).trans hx
theorem Buf.iterAt {B : Nat} {v : Value} {l : List UInt8} {W0 w : World} (h : Buf B v l W0 w) {k : Nat} {s : ByteArray} {p : Nat} (hk : w.heap[k]? = some (Obj.stringIter s p)) (hB : B ≤ k) (p' : Nat) : Buf B v l W0 (w.iterAt k s p') := by
  have hne := buf_not_iter h hk
  refine ⟨⟨h.1.1, ?_⟩, Lib.below_iterAt h.2.1 hB s p', by rw [Lib.iterAt_size]; exact h.2.2⟩
  rcases h.1.2 with ⟨rfl, h0⟩ | ⟨g, cap, cur, rfl, h1, h2, h3⟩
  · exact .inl ⟨rfl, h0⟩
  · refine .inr ⟨g, cap, cur, rfl, h1, ?_, h3⟩
    rw [Lib.iterAt_other _ _ _ _ _ (fun e => hne (by simp [Value.ownBlock, e]))]
    exact h2
end Go.Proofs.YtiejmkjpgjbodaaGreatDoor

namespace Go.Proofs.YtiejmkjpgjbodaaGreatDoor
open Go.RowKit
set_option linter.unusedVariables false
set_option linter.unusedSimpArgs false
set_option maxRecDepth 100000 in
set_option maxHeartbeats 4000000 in
theorem known_any (s : ByteArray) (w : World) (hs : s.size ≤ 70368744177664) :
    Calls Tryz.prog 226 #[.string s] w fun e w' => e = .returned (knownV (kindL s.data.toList)) ∧ Below w.heap.size w w' := by
  obtain ⟨x, hx⟩ : ∃ x, x = cleanL s.data.toList := ⟨_, rfl⟩
  obtain ⟨X, hX⟩ : ∃ X, X = str x := ⟨_, rfl⟩
  have HX : Hid (str (cleanL s.data.toList) = X) := hide (by rw [hX, hx])
  have hk : kindL s.data.toList = kindOf x := by rw [hx]; rfl
  rw [hk]
  have HXX := hide hX
  have HSZ : Hid ((str (Lib.trimS s.data.toList whiteSet)).size ≤ 70368744177664) := hide (by
    rw [str_size]
    have h := trimS_length s.data.toList whiteSet
    rw [toList_length] at h; omega)
  clear hx hX hk
  by_cases h0 : x = [117, 116, 102, 45, 56]
  · have HV : Hid (knownV (kindOf x) = .tuple #[.string ⟨#[117, 116, 102, 45, 56]⟩, .bool true]) := hide (by rw [h0, show kindOf [117, 116, 102, 45, 56] = 1 from by decide +kernel]; rfl)
    have t0 : (X.toList == [117, 116, 102, 45, 56]) = true := listT HXX.out h0
    clear h0
    go_enter Tryz.func226, Tryz.ntmps226
    go_wp2_with fail
    refine (trim_any s _ (by unfold maxLen; omega)).mono ?_
    rintro e w1 ⟨rfl, hb1⟩
    go_wp2_with fail
    refine (lower_any _ _ HSZ.out).mono ?_
    rintro e w2 ⟨rfl, hb2⟩
    rw [str_toList, show lowL (Lib.trimS s.data.toList whiteSet) = cleanL s.data.toList from rfl, HX.out]
    have hbb := hb1.trans (hb2.mono hb1.size)
    go_wp2_with fail
    go_ret2
    exact ⟨by rw [HV.out]; rfl, hbb⟩
  have t0 : (X.toList == [117, 116, 102, 45, 56]) = false := listF HXX.out h0
  by_cases h1 : x = [117, 116, 102, 56]
  · have HV : Hid (knownV (kindOf x) = .tuple #[.string ⟨#[117, 116, 102, 45, 56]⟩, .bool true]) := hide (by rw [h1, show kindOf [117, 116, 102, 56] = 1 from by decide +kernel]; rfl)
    have t1 : (X.toList == [117, 116, 102, 56]) = true := listT HXX.out h1
    clear h0 h1
    go_enter Tryz.func226, Tryz.ntmps226
    go_wp2_with fail
    refine (trim_any s _ (by unfold maxLen; omega)).mono ?_
    rintro e w1 ⟨rfl, hb1⟩
    go_wp2_with fail
    refine (lower_any _ _ HSZ.out).mono ?_
    rintro e w2 ⟨rfl, hb2⟩
    rw [str_toList, show lowL (Lib.trimS s.data.toList whiteSet) = cleanL s.data.toList from rfl, HX.out]
    have hbb := hb1.trans (hb2.mono hb1.size)
    go_wp2_with fail
    go_ret2
    exact ⟨by rw [HV.out]; rfl, hbb⟩
  have t1 : (X.toList == [117, 116, 102, 56]) = false := listF HXX.out h1
  by_cases h2 : x = [117, 110, 105, 99, 111, 100, 101, 45, 49, 45, 49, 45, 117, 116, 102, 45, 56]
  · have HV : Hid (knownV (kindOf x) = .tuple #[.string ⟨#[117, 116, 102, 45, 56]⟩, .bool true]) := hide (by rw [h2, show kindOf [117, 110, 105, 99, 111, 100, 101, 45, 49, 45, 49, 45, 117, 116, 102, 45, 56] = 1 from by decide +kernel]; rfl)
    have t2 : (X.toList == [117, 110, 105, 99, 111, 100, 101, 45, 49, 45, 49, 45, 117, 116, 102, 45, 56]) = true := listT HXX.out h2
    clear h0 h1 h2
    go_enter Tryz.func226, Tryz.ntmps226
    go_wp2_with fail
    refine (trim_any s _ (by unfold maxLen; omega)).mono ?_
    rintro e w1 ⟨rfl, hb1⟩
    go_wp2_with fail
    refine (lower_any _ _ HSZ.out).mono ?_
    rintro e w2 ⟨rfl, hb2⟩
    rw [str_toList, show lowL (Lib.trimS s.data.toList whiteSet) = cleanL s.data.toList from rfl, HX.out]
    have hbb := hb1.trans (hb2.mono hb1.size)
    go_wp2_with fail
    go_ret2
    exact ⟨by rw [HV.out]; rfl, hbb⟩
  have t2 : (X.toList == [117, 110, 105, 99, 111, 100, 101, 45, 49, 45, 49, 45, 117, 116, 102, 45, 56]) = false := listF HXX.out h2
  by_cases h3 : x = [119, 105, 110, 100, 111, 119, 115, 45, 49, 50, 53, 50]
  · have HV : Hid (knownV (kindOf x) = .tuple #[.string ⟨#[119, 105, 110, 100, 111, 119, 115, 45, 49, 50, 53, 50]⟩, .bool true]) := hide (by rw [h3, show kindOf [119, 105, 110, 100, 111, 119, 115, 45, 49, 50, 53, 50] = 2 from by decide +kernel]; rfl)
    have t3 : (X.toList == [119, 105, 110, 100, 111, 119, 115, 45, 49, 50, 53, 50]) = true := listT HXX.out h3
    clear h0 h1 h2 h3
    go_enter Tryz.func226, Tryz.ntmps226
    go_wp2_with fail
    refine (trim_any s _ (by unfold maxLen; omega)).mono ?_
    rintro e w1 ⟨rfl, hb1⟩
    go_wp2_with fail
    refine (lower_any _ _ HSZ.out).mono ?_
    rintro e w2 ⟨rfl, hb2⟩
    rw [str_toList, show lowL (Lib.trimS s.data.toList whiteSet) = cleanL s.data.toList from rfl, HX.out]
    have hbb := hb1.trans (hb2.mono hb1.size)
    go_wp2_with fail
    go_ret2
    exact ⟨by rw [HV.out]; rfl, hbb⟩
  have t3 : (X.toList == [119, 105, 110, 100, 111, 119, 115, 45, 49, 50, 53, 50]) = false := listF HXX.out h3
  by_cases h4 : x = [99, 112, 49, 50, 53, 50]
  · have HV : Hid (knownV (kindOf x) = .tuple #[.string ⟨#[119, 105, 110, 100, 111, 119, 115, 45, 49, 50, 53, 50]⟩, .bool true]) := hide (by rw [h4, show kindOf [99, 112, 49, 50, 53, 50] = 2 from by decide +kernel]; rfl)
    have t4 : (X.toList == [99, 112, 49, 50, 53, 50]) = true := listT HXX.out h4
    clear h0 h1 h2 h3 h4
    go_enter Tryz.func226, Tryz.ntmps226
    go_wp2_with fail
    refine (trim_any s _ (by unfold maxLen; omega)).mono ?_
    rintro e w1 ⟨rfl, hb1⟩
    go_wp2_with fail
    refine (lower_any _ _ HSZ.out).mono ?_
    rintro e w2 ⟨rfl, hb2⟩
    rw [str_toList, show lowL (Lib.trimS s.data.toList whiteSet) = cleanL s.data.toList from rfl, HX.out]
    have hbb := hb1.trans (hb2.mono hb1.size)
    go_wp2_with fail
    go_ret2
    exact ⟨by rw [HV.out]; rfl, hbb⟩
  have t4 : (X.toList == [99, 112, 49, 50, 53, 50]) = false := listF HXX.out h4
  by_cases h5 : x = [117, 115, 45, 97, 115, 99, 105, 105]
  · have HV : Hid (knownV (kindOf x) = .tuple #[.string ⟨#[119, 105, 110, 100, 111, 119, 115, 45, 49, 50, 53, 50]⟩, .bool true]) := hide (by rw [h5, show kindOf [117, 115, 45, 97, 115, 99, 105, 105] = 2 from by decide +kernel]; rfl)
    have t5 : (X.toList == [117, 115, 45, 97, 115, 99, 105, 105]) = true := listT HXX.out h5
    clear h0 h1 h2 h3 h4 h5
    go_enter Tryz.func226, Tryz.ntmps226
    go_wp2_with fail
    refine (trim_any s _ (by unfold maxLen; omega)).mono ?_
    rintro e w1 ⟨rfl, hb1⟩
    go_wp2_with fail
    refine (lower_any _ _ HSZ.out).mono ?_
    rintro e w2 ⟨rfl, hb2⟩
    rw [str_toList, show lowL (Lib.trimS s.data.toList whiteSet) = cleanL s.data.toList from rfl, HX.out]
    have hbb := hb1.trans (hb2.mono hb1.size)
    go_wp2_with fail
    go_ret2
    exact ⟨by rw [HV.out]; rfl, hbb⟩
  have t5 : (X.toList == [117, 115, 45, 97, 115, 99, 105, 105]) = false := listF HXX.out h5
  by_cases h6 : x = [97, 115, 99, 105, 105]
  · have HV : Hid (knownV (kindOf x) = .tuple #[.string ⟨#[119, 105, 110, 100, 111, 119, 115, 45, 49, 50, 53, 50]⟩, .bool true]) := hide (by rw [h6, show kindOf [97, 115, 99, 105, 105] = 2 from by decide +kernel]; rfl)
    have t6 : (X.toList == [97, 115, 99, 105, 105]) = true := listT HXX.out h6
    clear h0 h1 h2 h3 h4 h5 h6
    go_enter Tryz.func226, Tryz.ntmps226
    go_wp2_with fail
    refine (trim_any s _ (by unfold maxLen; omega)).mono ?_
    rintro e w1 ⟨rfl, hb1⟩
    go_wp2_with fail
    refine (lower_any _ _ HSZ.out).mono ?_
    rintro e w2 ⟨rfl, hb2⟩
    rw [str_toList, show lowL (Lib.trimS s.data.toList whiteSet) = cleanL s.data.toList from rfl, HX.out]
    have hbb := hb1.trans (hb2.mono hb1.size)
    go_wp2_with fail
    go_ret2
    exact ⟨by rw [HV.out]; rfl, hbb⟩
  have t6 : (X.toList == [97, 115, 99, 105, 105]) = false := listF HXX.out h6
  by_cases h7 : x = [105, 115, 111, 45, 56, 56, 53, 57, 45, 49]
  · have HV : Hid (knownV (kindOf x) = .tuple #[.string ⟨#[119, 105, 110, 100, 111, 119, 115, 45, 49, 50, 53, 50]⟩, .bool true]) := hide (by rw [h7, show kindOf [105, 115, 111, 45, 56, 56, 53, 57, 45, 49] = 2 from by decide +kernel]; rfl)
    have t7 : (X.toList == [105, 115, 111, 45, 56, 56, 53, 57, 45, 49]) = true := listT HXX.out h7
    clear h0 h1 h2 h3 h4 h5 h6 h7
    go_enter Tryz.func226, Tryz.ntmps226
    go_wp2_with fail
    refine (trim_any s _ (by unfold maxLen; omega)).mono ?_
    rintro e w1 ⟨rfl, hb1⟩
    go_wp2_with fail
    refine (lower_any _ _ HSZ.out).mono ?_
    rintro e w2 ⟨rfl, hb2⟩
    rw [str_toList, show lowL (Lib.trimS s.data.toList whiteSet) = cleanL s.data.toList from rfl, HX.out]
    have hbb := hb1.trans (hb2.mono hb1.size)
    go_wp2_with fail
    go_ret2
    exact ⟨by rw [HV.out]; rfl, hbb⟩
  have t7 : (X.toList == [105, 115, 111, 45, 56, 56, 53, 57, 45, 49]) = false := listF HXX.out h7
  by_cases h8 : x = [105, 115, 111, 56, 56, 53, 57, 45, 49]
  · have HV : Hid (knownV (kindOf x) = .tuple #[.string ⟨#[119, 105, 110, 100, 111, 119, 115, 45, 49, 50, 53, 50]⟩, .bool true]) := hide (by rw [h8, show kindOf [105, 115, 111, 56, 56, 53, 57, 45, 49] = 2 from by decide +kernel]; rfl)
    have t8 : (X.toList == [105, 115, 111, 56, 56, 53, 57, 45, 49]) = true := listT HXX.out h8
    clear h0 h1 h2 h3 h4 h5 h6 h7 h8
    go_enter Tryz.func226, Tryz.ntmps226
    go_wp2_with fail
    refine (trim_any s _ (by unfold maxLen; omega)).mono ?_
    rintro e w1 ⟨rfl, hb1⟩
    go_wp2_with fail
    refine (lower_any _ _ HSZ.out).mono ?_
    rintro e w2 ⟨rfl, hb2⟩
    rw [str_toList, show lowL (Lib.trimS s.data.toList whiteSet) = cleanL s.data.toList from rfl, HX.out]
    have hbb := hb1.trans (hb2.mono hb1.size)
    go_wp2_with fail
    go_ret2
    exact ⟨by rw [HV.out]; rfl, hbb⟩
  have t8 : (X.toList == [105, 115, 111, 56, 56, 53, 57, 45, 49]) = false := listF HXX.out h8
  by_cases h9 : x = [108, 97, 116, 105, 110, 49]
  · have HV : Hid (knownV (kindOf x) = .tuple #[.string ⟨#[119, 105, 110, 100, 111, 119, 115, 45, 49, 50, 53, 50]⟩, .bool true]) := hide (by rw [h9, show kindOf [108, 97, 116, 105, 110, 49] = 2 from by decide +kernel]; rfl)
    have t9 : (X.toList == [108, 97, 116, 105, 110, 49]) = true := listT HXX.out h9
    clear h0 h1 h2 h3 h4 h5 h6 h7 h8 h9
    go_enter Tryz.func226, Tryz.ntmps226
    go_wp2_with fail
    refine (trim_any s _ (by unfold maxLen; omega)).mono ?_
    rintro e w1 ⟨rfl, hb1⟩
    go_wp2_with fail
    refine (lower_any _ _ HSZ.out).mono ?_
    rintro e w2 ⟨rfl, hb2⟩
    rw [str_toList, show lowL (Lib.trimS s.data.toList whiteSet) = cleanL s.data.toList from rfl, HX.out]
    have hbb := hb1.trans (hb2.mono hb1.size)
    go_wp2_with fail
    go_ret2
    exact ⟨by rw [HV.out]; rfl, hbb⟩
  have t9 : (X.toList == [108, 97, 116, 105, 110, 49]) = false := listF HXX.out h9
  by_cases h10 : x = [108, 49]
  · have HV : Hid (knownV (kindOf x) = .tuple #[.string ⟨#[119, 105, 110, 100, 111, 119, 115, 45, 49, 50, 53, 50]⟩, .bool true]) := hide (by rw [h10, show kindOf [108, 49] = 2 from by decide +kernel]; rfl)
    have t10 : (X.toList == [108, 49]) = true := listT HXX.out h10
    clear h0 h1 h2 h3 h4 h5 h6 h7 h8 h9 h10
    go_enter Tryz.func226, Tryz.ntmps226
    go_wp2_with fail
    refine (trim_any s _ (by unfold maxLen; omega)).mono ?_
    rintro e w1 ⟨rfl, hb1⟩
    go_wp2_with fail
    refine (lower_any _ _ HSZ.out).mono ?_
    rintro e w2 ⟨rfl, hb2⟩
    rw [str_toList, show lowL (Lib.trimS s.data.toList whiteSet) = cleanL s.data.toList from rfl, HX.out]
    have hbb := hb1.trans (hb2.mono hb1.size)
    go_wp2_with fail
    go_ret2
    exact ⟨by rw [HV.out]; rfl, hbb⟩
  have t10 : (X.toList == [108, 49]) = false := listF HXX.out h10
  by_cases h11 : x = [117, 116, 102, 45, 49, 54, 108, 101]
  · have HV : Hid (knownV (kindOf x) = .tuple #[.string ⟨#[117, 116, 102, 45, 49, 54, 108, 101]⟩, .bool true]) := hide (by rw [h11, show kindOf [117, 116, 102, 45, 49, 54, 108, 101] = 3 from by decide +kernel]; rfl)
    have t11 : (X.toList == [117, 116, 102, 45, 49, 54, 108, 101]) = true := listT HXX.out h11
    clear h0 h1 h2 h3 h4 h5 h6 h7 h8 h9 h10 h11
    go_enter Tryz.func226, Tryz.ntmps226
    go_wp2_with fail
    refine (trim_any s _ (by unfold maxLen; omega)).mono ?_
    rintro e w1 ⟨rfl, hb1⟩
    go_wp2_with fail
    refine (lower_any _ _ HSZ.out).mono ?_
    rintro e w2 ⟨rfl, hb2⟩
    rw [str_toList, show lowL (Lib.trimS s.data.toList whiteSet) = cleanL s.data.toList from rfl, HX.out]
    have hbb := hb1.trans (hb2.mono hb1.size)
    go_wp2_with fail
    go_ret2
    exact ⟨by rw [HV.out]; rfl, hbb⟩
  have t11 : (X.toList == [117, 116, 102, 45, 49, 54, 108, 101]) = false := listF HXX.out h11
  by_cases h12 : x = [117, 116, 102, 45, 49, 54]
  · have HV : Hid (knownV (kindOf x) = .tuple #[.string ⟨#[117, 116, 102, 45, 49, 54, 108, 101]⟩, .bool true]) := hide (by rw [h12, show kindOf [117, 116, 102, 45, 49, 54] = 3 from by decide +kernel]; rfl)
    have t12 : (X.toList == [117, 116, 102, 45, 49, 54]) = true := listT HXX.out h12
    clear h0 h1 h2 h3 h4 h5 h6 h7 h8 h9 h10 h11 h12
    go_enter Tryz.func226, Tryz.ntmps226
    go_wp2_with fail
    refine (trim_any s _ (by unfold maxLen; omega)).mono ?_
    rintro e w1 ⟨rfl, hb1⟩
    go_wp2_with fail
    refine (lower_any _ _ HSZ.out).mono ?_
    rintro e w2 ⟨rfl, hb2⟩
    rw [str_toList, show lowL (Lib.trimS s.data.toList whiteSet) = cleanL s.data.toList from rfl, HX.out]
    have hbb := hb1.trans (hb2.mono hb1.size)
    go_wp2_with fail
    go_ret2
    exact ⟨by rw [HV.out]; rfl, hbb⟩
  have t12 : (X.toList == [117, 116, 102, 45, 49, 54]) = false := listF HXX.out h12
  by_cases h13 : x = [117, 110, 105, 99, 111, 100, 101]
  · have HV : Hid (knownV (kindOf x) = .tuple #[.string ⟨#[117, 116, 102, 45, 49, 54, 108, 101]⟩, .bool true]) := hide (by rw [h13, show kindOf [117, 110, 105, 99, 111, 100, 101] = 3 from by decide +kernel]; rfl)
    have t13 : (X.toList == [117, 110, 105, 99, 111, 100, 101]) = true := listT HXX.out h13
    clear h0 h1 h2 h3 h4 h5 h6 h7 h8 h9 h10 h11 h12 h13
    go_enter Tryz.func226, Tryz.ntmps226
    go_wp2_with fail
    refine (trim_any s _ (by unfold maxLen; omega)).mono ?_
    rintro e w1 ⟨rfl, hb1⟩
    go_wp2_with fail
    refine (lower_any _ _ HSZ.out).mono ?_
    rintro e w2 ⟨rfl, hb2⟩
    rw [str_toList, show lowL (Lib.trimS s.data.toList whiteSet) = cleanL s.data.toList from rfl, HX.out]
    have hbb := hb1.trans (hb2.mono hb1.size)
    go_wp2_with fail
    go_ret2
    exact ⟨by rw [HV.out]; rfl, hbb⟩
  have t13 : (X.toList == [117, 110, 105, 99, 111, 100, 101]) = false := listF HXX.out h13
  by_cases h14 : x = [117, 99, 115, 45, 50]
  · have HV : Hid (knownV (kindOf x) = .tuple #[.string ⟨#[117, 116, 102, 45, 49, 54, 108, 101]⟩, .bool true]) := hide (by rw [h14, show kindOf [117, 99, 115, 45, 50] = 3 from by decide +kernel]; rfl)
    have t14 : (X.toList == [117, 99, 115, 45, 50]) = true := listT HXX.out h14
    clear h0 h1 h2 h3 h4 h5 h6 h7 h8 h9 h10 h11 h12 h13 h14
    go_enter Tryz.func226, Tryz.ntmps226
    go_wp2_with fail
    refine (trim_any s _ (by unfold maxLen; omega)).mono ?_
    rintro e w1 ⟨rfl, hb1⟩
    go_wp2_with fail
    refine (lower_any _ _ HSZ.out).mono ?_
    rintro e w2 ⟨rfl, hb2⟩
    rw [str_toList, show lowL (Lib.trimS s.data.toList whiteSet) = cleanL s.data.toList from rfl, HX.out]
    have hbb := hb1.trans (hb2.mono hb1.size)
    go_wp2_with fail
    go_ret2
    exact ⟨by rw [HV.out]; rfl, hbb⟩
  have t14 : (X.toList == [117, 99, 115, 45, 50]) = false := listF HXX.out h14
  by_cases h15 : x = [117, 116, 102, 45, 49, 54, 98, 101]
  · have HV : Hid (knownV (kindOf x) = .tuple #[.string ⟨#[117, 116, 102, 45, 49, 54, 98, 101]⟩, .bool true]) := hide (by rw [h15, show kindOf [117, 116, 102, 45, 49, 54, 98, 101] = 4 from by decide +kernel]; rfl)
    have t15 : (X.toList == [117, 116, 102, 45, 49, 54, 98, 101]) = true := listT HXX.out h15
    clear h0 h1 h2 h3 h4 h5 h6 h7 h8 h9 h10 h11 h12 h13 h14 h15
    go_enter Tryz.func226, Tryz.ntmps226
    go_wp2_with fail
    refine (trim_any s _ (by unfold maxLen; omega)).mono ?_
    rintro e w1 ⟨rfl, hb1⟩
    go_wp2_with fail
    refine (lower_any _ _ HSZ.out).mono ?_
    rintro e w2 ⟨rfl, hb2⟩
    rw [str_toList, show lowL (Lib.trimS s.data.toList whiteSet) = cleanL s.data.toList from rfl, HX.out]
    have hbb := hb1.trans (hb2.mono hb1.size)
    go_wp2_with fail
    go_ret2
    exact ⟨by rw [HV.out]; rfl, hbb⟩
  have t15 : (X.toList == [117, 116, 102, 45, 49, 54, 98, 101]) = false := listF HXX.out h15
  by_cases h16 : x = [117, 110, 105, 99, 111, 100, 101, 102, 102, 102, 101]
  · have HV : Hid (knownV (kindOf x) = .tuple #[.string ⟨#[117, 116, 102, 45, 49, 54, 98, 101]⟩, .bool true]) := hide (by rw [h16, show kindOf [117, 110, 105, 99, 111, 100, 101, 102, 102, 102, 101] = 4 from by decide +kernel]; rfl)
    have t16 : (X.toList == [117, 110, 105, 99, 111, 100, 101, 102, 102, 102, 101]) = true := listT HXX.out h16
    clear h0 h1 h2 h3 h4 h5 h6 h7 h8 h9 h10 h11 h12 h13 h14 h15 h16
    go_enter Tryz.func226, Tryz.ntmps226
    go_wp2_with fail
    refine (trim_any s _ (by unfold maxLen; omega)).mono ?_
    rintro e w1 ⟨rfl, hb1⟩
    go_wp2_with fail
    refine (lower_any _ _ HSZ.out).mono ?_
    rintro e w2 ⟨rfl, hb2⟩
    rw [str_toList, show lowL (Lib.trimS s.data.toList whiteSet) = cleanL s.data.toList from rfl, HX.out]
    have hbb := hb1.trans (hb2.mono hb1.size)
    go_wp2_with fail
    go_ret2
    exact ⟨by rw [HV.out]; rfl, hbb⟩
  have t16 : (X.toList == [117, 110, 105, 99, 111, 100, 101, 102, 102, 102, 101]) = false := listF HXX.out h16
  have HV : Hid (knownV (kindOf x) = .tuple #[.string ⟨#[]⟩, .bool false]) := hide (by
    rw [kind_none (x := x) (by
      intro y hy
      simp only [labels, List.mem_cons, List.mem_nil_iff, or_false] at hy
      rcases hy with rfl | rfl | rfl | rfl | rfl | rfl | rfl | rfl | rfl | rfl | rfl | rfl | rfl | rfl | rfl | rfl | rfl
      all_goals assumption)]
    rfl)
  clear h0 h1 h2 h3 h4 h5 h6 h7 h8 h9 h10 h11 h12 h13 h14 h15 h16
  go_enter Tryz.func226, Tryz.ntmps226
  go_wp2_with fail
  refine (trim_any s _ (by unfold maxLen; omega)).mono ?_
  rintro e w1 ⟨rfl, hb1⟩
  go_wp2_with fail
  refine (lower_any _ _ HSZ.out).mono ?_
  rintro e w2 ⟨rfl, hb2⟩
  rw [str_toList, show lowL (Lib.trimS s.data.toList whiteSet) = cleanL s.data.toList from rfl, HX.out]
  have hbb := hb1.trans (hb2.mono hb1.size)
  go_wp2_with fail
  go_ret2
  exact ⟨by rw [HV.out]; rfl, hbb⟩
end Go.Proofs.YtiejmkjpgjbodaaGreatDoor

namespace Go.Proofs.YtiejmkjpgjbodaaGreatDoor
open Go.RowKit
set_option linter.unusedVariables false
set_option linter.unusedSimpArgs false
set_option maxHeartbeats 1000000 in
theorem valid_any (s : ByteArray) (w : World) (hs : s.size ≤ 1048576) :
    Calls Tryz.prog 229 #[.string s] w fun e w' => e = .returned (.string (str (validL s.data.toList))) ∧ Below w.heap.size w w' := by
  go_enter Tryz.func229, Tryz.ntmps229
  go_wp2_with (refine wpList_buf_make rfl _ _ rfl w.heap.size w (Below.refl _ _) (Nat.le_refl _) s.size s.size rfl rfl rfl (by omega) ?_; intro v0 w0 hb0)
  have hbz := hb0.2.2
  have hit : (w0.iter s 0).heap[w0.heap.size]? = some (Obj.stringIter s 0) := heap_alloc_new w0 _
  go_loopw [3] (fun v wr => ∃ (pos : Nat) (acc : List UInt8), pos ≤ s.size ∧ wr.heap[w0.heap.size]? = some (Obj.stringIter s pos) ∧ Buf w.heap.size v acc w wr ∧ acc.length ≤ 3 * pos ∧ acc ++ validL (s.data.toList.drop pos) = validL s.data.toList) (fun _ wr => s.size - wr.iterPos w0.heap.size)
  case atStart => exact ⟨0, [], Nat.zero_le _, hit, hb0.alloc _, Nat.le_refl _, by simp⟩
  case round =>
    obtain ⟨pos, acc, hpos, hk, hb, hacc, hd⟩ := hrel
    have HB := hide hb
    have HK := hide hk
    clear hb hk
    by_cases hlt : pos < s.size
    · have hnx := fun ty => Lib.run_next_any_at (P := Tryz.prog) wr w0.heap.size s pos ty HK.out hlt
      have hne : s.data.toList.drop pos ≠ [] := by rw [drop_cons s pos hlt]; simp
      have hsp := decL_spec _ hne
      have hst := vStep_pos' _ hne
      have hR := valid_round hd hne
      rw [List.drop_drop] at hR
      rw [decode_decL s pos hlt] at hnx
      rw [List.length_drop, toList_length] at hst
      generalize decL (s.data.toList.drop pos) = dl at hnx hsp
      obtain ⟨r, n⟩ := dl
      simp only at hsp hnx
      rw [← hsp.1, ← hsp.2.1] at hR
      rw [← hsp.1, ← hsp.2.1] at hst
      have hr := hsp.2.2
      clear hsp
      obtain ⟨hn1, hn2, hn3, hn4⟩ := hst
      have HR := hide hR
      have HI := hide (Lib.iterAt_heap wr w0.heap.size s pos (pos + n) HK.out)
      have HB1 := hide (HB.out.iterAt HK.out (by omega) (pos + n))
      clear hR hd hne
      go_wp2_with fail
      refine (appendRune_any w.heap.size u3 acc w _ HB1.out (r : Int) (by omega) (by omega) (by omega)).mono ?_
      rintro e w1 ⟨v1, rfl, hb1, hi1⟩
      have HB2 := hide hb1
      have HI2 := hide (hi1 _ _ _ HI.out)
      clear hb1 hi1
      go_wp2_with fail
      go_roundw
      case rel => exact ⟨pos + n, acc ++ _, by omega, HI2.out, HB2.out, by rw [List.length_append]; omega, HR.out⟩
      case measure =>
        have e1 : World.iterPos w1 w0.heap.size = pos + n := by unfold World.iterPos; rw [HI2.out]
        have e2 : World.iterPos wr w0.heap.size = pos := by unfold World.iterPos; rw [HK.out]
        rw [e1, e2]; omega
    · have hnx := fun ty => Lib.run_next_end_at (P := Tryz.prog) wr w0.heap.size s pos ty HK.out hlt
      have hcv := HB.out.convert
      go_wp2
      go_ret
      refine ⟨?_, HB.out.below⟩
      rw [drop_nil s pos (by omega), validL_nil, List.append_nil] at hd
      exact ret_str (by rw [hd])
def Tab (w : World) : Prop := ∀ j : Nat, j < 32 → w.cell? ⟨3, j, none⟩ = some (.int .i32 (winTab.getD j 0))
theorem Tab.lt {w : World} (h : Tab w) : 3 < w.heap.size := by
  have := h 0 (by omega)
  rcases Nat.lt_or_ge 3 w.heap.size with h1 | h1
  · exact h1
  · unfold World.cell? at this
    rw [Array.getElem?_eq_none h1] at this; cases this
theorem Tab.below {B : Nat} {w w' : World} (h : Tab w) (hb : Below B w w') (hB : 3 < B) : Tab w' := fun j hj => by
  rw [← h j hj]
  exact hb.cell (by exact hB)
set_option maxHeartbeats 1000000 in
theorem fromWindows_any (s : ByteArray) (w : World) (hs : s.size ≤ 1048576) (hT : Tab w) :
    Calls Tryz.prog 227 #[.string s] w fun e w' => e = .returned (.string (str (winL s.data.toList))) ∧ Below w.heap.size w w' := by
  have HT := hide hT
  have h0 := hT.lt
  clear hT
  go_enter Tryz.func227, Tryz.ntmps227
  go_wp2_with (refine wpList_buf_make rfl _ _ rfl w.heap.size w (Below.refl _ _) (Nat.le_refl _) s.size s.size rfl rfl rfl (by omega) ?_; intro v0 w0 hb0)
  go_loopw [3, 12] (fun v i wr => ∃ (k : Nat) (acc : List UInt8), k ≤ s.size ∧ i = .int .i64 k ∧ Buf w.heap.size v acc w wr ∧ acc.length ≤ 3 * k ∧ acc ++ winL (s.data.toList.drop k) = winL s.data.toList) (fun _ i _ => s.size - (intOf i).toNat)
  case atStart => exact ⟨0, [], Nat.zero_le _, rfl, hb0, Nat.le_refl _, by simp⟩
  case round =>
    obtain ⟨k, acc, hk, rfl, hb, hacc, hd⟩ := hrel
    have HB := hide hb
    clear hb
    by_cases hlt : k < s.size
    · rw [drop_cons s k hlt, winL_cons, ← List.append_assoc] at hd
      have HR := hide hd
      have hcase := winR_case s[k]
      have hl3 := winR_length s[k]
      have hrg := winR_range s[k]
      have hbl := byte_lt s[k]
      generalize hc : s[k] = c at hd hcase hl3 hrg hbl
      rw [hc] at HR
      clear hd
      rcases hcase with ⟨c1, e⟩ | ⟨c1, c2, e⟩ | ⟨c1, e⟩
      · rw [e] at HR hl3
        clear e
        go_wp2_with fail
        refine (appendRune_any w.heap.size u3 acc w wr HB.out c.toNat (by omega) (by omega) (by omega)).mono ?_
        rintro e w1 ⟨v1, rfl, hb1, _⟩
        have HB1 := hide hb1
        clear hb1
        go_wp2_with fail
        go_roundw
        case rel => exact ⟨k + 1, acc ++ _, by omega, by go_num, HB1.out, by rw [List.length_append]; omega, HR.out⟩
        case measure => simp [intOf]; omega
      · have hcell := (HT.out.below HB.out.below h0) (c.toNat - 128) (by omega)
        rw [← e] at hcell
        have q1 : ((c.toNat : Int) - 128).toNat = c.toNat - 128 := by omega
        generalize winR c = rr at HR hl3 hrg hcell e
        clear e
        go_wp2_with fail
        refine (appendRune_any w.heap.size u3 acc w wr HB.out rr (by omega) (by omega) (by omega)).mono ?_
        rintro e w1 ⟨v1, rfl, hb1, _⟩
        have HB1 := hide hb1
        clear hb1
        go_wp2_with fail
        go_roundw
        case rel => exact ⟨k + 1, acc ++ _, by omega, by go_num, HB1.out, by rw [List.length_append]; omega, HR.out⟩
        case measure => simp [intOf]; omega
      · rw [e] at HR hl3
        clear e
        go_wp2_with fail
        refine (appendRune_any w.heap.size u3 acc w wr HB.out c.toNat (by omega) (by omega) (by omega)).mono ?_
        rintro e w1 ⟨v1, rfl, hb1, _⟩
        have HB1 := hide hb1
        clear hb1
        go_wp2_with fail
        go_roundw
        case rel => exact ⟨k + 1, acc ++ _, by omega, by go_num, HB1.out, by rw [List.length_append]; omega, HR.out⟩
        case measure => simp [intOf]; omega
    · have hcv := HB.out.convert
      go_wp2
      go_ret
      refine ⟨?_, HB.out.below⟩
      rw [drop_nil s k (by omega)] at hd
      rw [show winL [] = [] from rfl, List.append_nil] at hd
      exact ret_str (by rw [hd])
end Go.Proofs.YtiejmkjpgjbodaaGreatDoor

namespace Go.Proofs.YtiejmkjpgjbodaaGreatDoor
open Go.RowKit
set_option linter.unusedVariables false
set_option linter.unusedSimpArgs false
theorem or_bytes (a b : Nat) (ha : a < 256) (hb : b < 256) : bits .or .i32 ((a : Int) * 256) (b : Int) = ((256 * a + b : Nat) : Int) := by
  have h1 : (BitVec.ofInt 32 ((a : Int) * 256)).toNat = a * 256 := by
    rw [show (a : Int) * 256 = ((a * 256 : Nat) : Int) from by omega, BitVec.ofInt_natCast, BitVec.toNat_ofNat]; exact Nat.mod_eq_of_lt (by omega)
  have h2 : (BitVec.ofInt 32 (b : Int)).toNat = b := by
    rw [BitVec.ofInt_natCast, BitVec.toNat_ofNat]; exact Nat.mod_eq_of_lt (by omega)
  show IntKind.i32.wrap ((BitVec.ofInt 32 ((a : Int) * 256) ||| BitVec.ofInt 32 (b : Int)).toNat : Int) = _
  rw [BitVec.toNat_or, h1, h2]
  have e : a * 256 ||| b = 256 * a + b := by
    have := Nat.two_pow_add_eq_or_of_lt (i := 8) (b := b) (by omega) a
    rw [Nat.mul_comm a 256]
    exact this.symm
  rw [e]
  exact IntWalk.i32_in _ (by omega)
def hiAt (big : Bool) : Int := if big then 0 else 1
set_option maxHeartbeats 1000000 in
theorem number_any (s : ByteArray) (big : Bool) (w : World) (hs : s.size ≤ maxLen) (h2 : 1 < s.size) :
    Calls Tryz.prog 265 #[.string s, .int .i64 (hiAt big)] w fun e w' => e = .returned (.int .i32 (num big s[0] s[1])) ∧ Below w.heap.size w w' := by
  unfold maxLen at hs
  have ha := byte_lt s[0]
  have hb := byte_lt s[1]
  have i0 : (0 : Int) < s.size := by omega
  have i1 : (1 : Int) < s.size := by omega
  have n0 : 0 < s.size := by omega
  cases big
  · have ho := or_bytes s[1].toNat s[0].toNat hb ha
    show Calls _ _ #[.string s, .int .i64 1] _ _
    go_enter Tryz.func265, Tryz.ntmps265
    go_wp2_with fail
    go_region
    all_goals (try go_wp2)
    all_goals
      go_ret
      exact ⟨ret_int (by unfold num; simp), (Below.refl _ _).drew⟩
  · have ho := or_bytes s[0].toNat s[1].toNat ha hb
    show Calls _ _ #[.string s, .int .i64 0] _ _
    go_enter Tryz.func265, Tryz.ntmps265
    go_wp2_with fail
    go_region
    all_goals (try go_wp2)
    all_goals
      go_ret
      exact ⟨ret_int (by unfold num; simp), (Below.refl _ _).drew⟩
theorem number_list (s : ByteArray) (big : Bool) (a b : UInt8) (r : List UInt8) (w : World) (hs : s.size ≤ maxLen) (h : s.data.toList = a :: b :: r) :
    Calls Tryz.prog 265 #[.string s, .int .i64 (hiAt big)] w fun e w' => e = .returned (.int .i32 (num big a b)) ∧ Below w.heap.size w w' := by
  have hl := toList_length s
  rw [h] at hl
  simp only [List.length_cons] at hl
  have h1 : 1 < s.size := by omega
  have e := drop_cons s 0 (by omega)
  rw [List.drop_zero, drop_cons s 1 h1, h] at e
  injection e with e1 e
  injection e with e2 e
  have := number_any s big w hs h1
  rw [← e1, ← e2] at this
  exact this
def fsV (big : Bool) (l : List UInt8) : Value := .tuple #[.int .i32 (fsS big l).1, .int .i64 (fsS big l).2]
theorem fsV_of {big : Bool} {l : List UInt8} {z : Int} {n : Nat} (h : fsS big l = (z, n)) : fsV big l = .tuple #[.int .i32 z, .int .i64 n] := by unfold fsV; rw [h]
set_option maxRecDepth 100000 in
set_option maxHeartbeats 2000000 in
theorem firstSign_any (s : ByteArray) (big : Bool) (w : World) (hs : s.size ≤ maxLen) (h2 : 1 < s.size) :
    Calls Tryz.prog 249 #[.string s, .int .i64 (hiAt big)] w fun e w' => e = .returned (fsV big s.data.toList) ∧ Below w.heap.size w w' := by
  have hs' := hs
  unfold maxLen at hs
  obtain ⟨a, b, r, hl⟩ : ∃ a b r, s.data.toList = a :: b :: r := by
    have e := drop_cons s 0 (by omega)
    rw [List.drop_zero, drop_cons s 1 h2] at e
    exact ⟨_, _, _, e⟩
  have hlen := toList_length s
  rw [hl] at hlen
  simp only [List.length_cons] at hlen
  have HN := hide (fun (w : World) => number_list s big a b r w hs' hl)
  have hlt := num_lt big a b
  obtain ⟨x, hx⟩ : ∃ x, x = num big a b := ⟨_, rfl⟩
  rw [hl]
  have hi : ∃ z, z = hiAt big := ⟨_, rfl⟩
  obtain ⟨z, hz⟩ := hi
  rw [← hz]
  have HZ := hide hz
  rw [← hz, ← hx] at HN
  rw [← hx] at hlt
  have HX := hide hx
  clear hx hz
  by_cases c1 : x < 55296
  · have HV := hide (fsV_of (big := big) (l := a :: b :: r) (z := x) (n := 2) (by rw [fsS, ← HX.out, if_pos (.inl c1)]))
    clear hlen
    go_enter Tryz.func249, Tryz.ntmps249
    go_wp2_with fail
    refine (HN.out _).mono ?_
    rintro e w1 ⟨rfl, hb1⟩
    go_wp2_with fail
    go_ret2
    exact ⟨by rw [HV.out]; rfl, hb1⟩
  by_cases c2 : 57344 ≤ x
  · have HV := hide (fsV_of (big := big) (l := a :: b :: r) (z := x) (n := 2) (by rw [fsS, ← HX.out, if_pos (.inr c2)]))
    clear hlen
    go_enter Tryz.func249, Tryz.ntmps249
    go_wp2_with fail
    refine (HN.out _).mono ?_
    rintro e w1 ⟨rfl, hb1⟩
    go_wp2_with fail
    go_ret2
    exact ⟨by rw [HV.out]; rfl, hb1⟩
  have c12 : ¬ (x < 55296 ∨ 57344 ≤ x) := by omega
  have t1 : decide ((x : Int) < 55296) = false := decide_eq_false (by omega)
  have t2 : decide ((57344 : Int) ≤ x) = false := decide_eq_false (by omega)
  have C12 := hide c12
  have K1 : Hid (55296 ≤ x) := hide (by omega)
  clear c12 c1 c2
  by_cases c3 : x < 56320
  · have t3 : decide ((x : Int) < 56320) = true := decide_eq_true (by omega)
    have C3 := hide c3
    clear c3
    by_cases c4 : 3 < s.size
    · have t4 : decide ((3 : Int) < s.size) = true := decide_eq_true (by omega)
      have s2 : (2 : Int) ≤ s.size := by omega
      obtain ⟨c, d, r', hr⟩ : ∃ c d r', r = c :: d :: r' := by
        match r, hlen with
        | c :: d :: r', _ => exact ⟨c, d, r', rfl⟩
        | [c], h => simp at h; omega
        | [], h => simp at h; omega
      subst hr
      have hx2 : (s.extract 2 s.size).data.toList = c :: d :: r' := by rw [extract_end, hl]; rfl
      have HN2 := hide (fun (w : World) => number_list (s.extract 2 s.size) big c d r' w (by have := extract_size_le s 2 s.size; unfold maxLen; omega) hx2)
      have hlt2 := num_lt big c d
      obtain ⟨y, hy⟩ : ∃ y, y = num big c d := ⟨_, rfl⟩
      rw [← HZ.out, ← hy] at HN2
      rw [← hy] at hlt2
      have HY := hide hy
      clear hy hx2 hl c4
      by_cases c5 : 56320 ≤ y ∧ y < 57344
      · have HV := hide (fsV_of (big := big) (l := a :: b :: c :: d :: r') (z := pairV x y) (n := 4) (by rw [fsS, ← HX.out, if_neg C12.out, if_pos C3.out, fsT, ← HY.out, if_pos c5]))
        have t5 : decide ((56320 : Int) ≤ y) = true := decide_eq_true (by omega)
        have t6 : decide ((y : Int) < 57344) = true := decide_eq_true (by omega)
        have k1 := K1.out
        have k3 := C3.out
        obtain ⟨k5, k6⟩ := c5
        clear hlen
        go_enter Tryz.func249, Tryz.ntmps249
        go_wp2_with fail
        refine (HN.out _).mono ?_
        rintro e w1 ⟨rfl, hb1⟩
        go_wp2_with fail
        refine (HN2.out _).mono ?_
        rintro e w2 ⟨rfl, hb2⟩
        go_upto_region 7 with (fail)
        clear t1 t2 t3 t4 t5 t6 hlt hlt2 h2 s2 hs'
        go_wp2_with fail
        go_ret2
        refine ⟨?_, hb1.trans (hb2.mono hb1.size)⟩
        rw [HV.out]
        show Ending.returned (.tuple #[.int .i32 _, .int .i64 _]) = _
        congr 5
        unfold pairV; omega
      · have HV := hide (fsV_of (big := big) (l := a :: b :: c :: d :: r') (z := 65533) (n := 2) (by rw [fsS, ← HX.out, if_neg C12.out, if_pos C3.out, fsT, ← HY.out, if_neg c5]))
        have c6 : y < 56320 ∨ (56320 ≤ y ∧ 57344 ≤ y) := by omega
        have c7 : decide ((56320 : Int) ≤ y) = false ∨ (decide ((56320 : Int) ≤ y) = true ∧ decide ((y : Int) < 57344) = false) := by
          rcases c6 with c | ⟨c, c'⟩
          · exact .inl (decide_eq_false (by omega))
          · exact .inr ⟨decide_eq_true (by omega), decide_eq_false (by omega)⟩
        clear c5 c6
        rcases c7 with t5 | ⟨t5, t6⟩
        all_goals
          clear hlen
          go_enter Tryz.func249, Tryz.ntmps249
          go_wp2_with fail
          refine (HN.out _).mono ?_
          rintro e w1 ⟨rfl, hb1⟩
          go_wp2_with fail
          refine (HN2.out _).mono ?_
          rintro e w2 ⟨rfl, hb2⟩
          go_wp2_with fail
          go_ret2
          exact ⟨by rw [HV.out]; rfl, hb1.trans (hb2.mono hb1.size)⟩
    · have HV := hide (fsV_of (big := big) (l := a :: b :: r) (z := 65533) (n := 2) (by
        rw [fsS, ← HX.out, if_neg C12.out, if_pos C3.out]
        match r, hlen with
        | [], _ => rfl
        | [_], _ => rfl
        | _ :: _ :: r', h => simp at h; omega))
      have t4 : decide ((3 : Int) < s.size) = false := decide_eq_false (by omega)
      clear c4
      clear hlen
      go_enter Tryz.func249, Tryz.ntmps249
      go_wp2_with fail
      refine (HN.out _).mono ?_
      rintro e w1 ⟨rfl, hb1⟩
      go_wp2_with fail
      go_ret2
      exact ⟨by rw [HV.out]; rfl, hb1⟩
  · have HV := hide (fsV_of (big := big) (l := a :: b :: r) (z := 65533) (n := 2) (by rw [fsS, ← HX.out, if_neg C12.out, if_neg c3]))
    have t3 : decide ((x : Int) < 56320) = false := decide_eq_false (by omega)
    clear c3
    clear hlen
    go_enter Tryz.func249, Tryz.ntmps249
    go_wp2_with fail
    refine (HN.out _).mono ?_
    rintro e w1 ⟨rfl, hb1⟩
    go_wp2_with fail
    go_ret2
    exact ⟨by rw [HV.out]; rfl, hb1⟩
def szOf4 : Value → Nat
  | .string t => t.size
  | _ => 0
set_option maxRecDepth 100000 in
set_option maxHeartbeats 2000000 in
theorem fromPairs_any (s : ByteArray) (big : Bool) (w : World) (hs : s.size ≤ 1048576) :
    Calls Tryz.prog 228 #[.string s, .int .i64 (hiAt big)] w fun e w' => e = .returned (.string (str (pairsL big s.data.toList))) ∧ Below w.heap.size w w' := by
  have HFS := hide (fun (t : ByteArray) (w : World) (ht : t.size ≤ maxLen) (h2 : 1 < t.size) => firstSign_any t big w ht h2)
  obtain ⟨z, hz⟩ : ∃ z, z = hiAt big := ⟨_, rfl⟩
  rw [← hz] at HFS ⊢
  clear hz
  go_enter Tryz.func228, Tryz.ntmps228
  go_wp2_with (refine wpList_buf_make rfl _ _ rfl w.heap.size w (Below.refl _ _) (Nat.le_refl _) s.size s.size rfl rfl rfl (by omega) ?_; intro v0 w0 hb0)
  go_loopw [0, 5] (fun x v wr => ∃ (t : ByteArray) (acc : List UInt8), x = .string t ∧ Buf w.heap.size v acc w wr ∧ acc.length + 3 * t.size ≤ 3 * s.size ∧ acc ++ pairsL big t.data.toList = pairsL big s.data.toList) (fun x _ _ => szOf4 x)
  case atStart => exact ⟨s, [], rfl, hb0, by simp, by simp⟩
  case round =>
    obtain ⟨t, acc, rfl, hb, hacc, hd⟩ := hrel
    have HB := hide hb
    clear hb
    by_cases hlt : 1 < t.size
    · obtain ⟨p1, p2, p3, p4, p5⟩ := pairs_step big t.data.toList (by rw [toList_length]; omega)
      have p6 := runeL_length (fsS big t.data.toList).1
      rw [p1, ← List.append_assoc] at hd
      rw [toList_length] at p3
      have hF : fsV big t.data.toList = .tuple #[.int .i32 (fsS big t.data.toList).1, .int .i64 (fsS big t.data.toList).2] := rfl
      generalize fsS big t.data.toList = st at hd hF p2 p3 p4 p5 p6
      obtain ⟨r, n⟩ := st
      simp only at hd hF p2 p3 p4 p5 p6
      have p7 : (runeL r).length ≤ 3 * n := by omega
      have p8 : 2 ≤ n := by omega
      have HR := hide hd
      have HF := hide hF
      clear hd hF p1 p2 p6
      go_wp2_with fail
      refine (HFS.out t _ (by unfold maxLen; omega) hlt).mono ?_
      rintro e w1 ⟨rfl, hb1⟩
      rw [HF.out]
      have HB1 := hide (HB.out.kept hb1)
      go_wp2_with fail
      refine (appendRune_any w.heap.size u5 acc w _ HB1.out r (by omega) (by omega) (by omega)).mono ?_
      rintro e w2 ⟨v2, rfl, hb2, _⟩
      have HB2 := hide hb2
      clear hb2
      go_wp2_with fail
      go_roundw
      case rel => exact ⟨t.extract n t.size, acc ++ _, rfl, HB2.out, by rw [ByteArray.size_extract, List.length_append]; omega, by rw [extract_end]; exact HR.out⟩
      case measure => simp [szOf4]; omega
    · have hl := toList_length t
      have hp := pairs_short big t.data.toList (by omega)
      rw [hl] at hp
      by_cases h1 : 0 < t.size
      · rw [hp, if_pos (by omega)] at hd
        have HR := hide hd
        clear hd hp hl
        go_wp2_with fail
        refine (appendRune_any w.heap.size u5 acc w _ HB.out 65533 (by omega) (by omega) (by omega)).mono ?_
        rintro e w2 ⟨v2, rfl, hb2, _⟩
        rw [runeL_bad'] at hb2
        have HB2 := hide hb2
        have hcv := hb2.convert
        clear hb2
        go_wp2_with fail
        go_ret
        exact ⟨ret_str (by rw [HR.out]), HB2.out.below⟩
      · rw [hp, if_neg (by omega), List.append_nil] at hd
        have HR := hide hd
        have hcv := HB.out.convert
        clear hd hp hl
        go_wp2_with fail
        go_ret
        exact ⟨ret_str (by rw [HR.out]), HB.out.below⟩
end Go.Proofs.YtiejmkjpgjbodaaGreatDoor

namespace Go.Proofs.YtiejmkjpgjbodaaGreatDoor
open Go.RowKit
set_option linter.unusedVariables false
set_option linter.unusedSimpArgs false
def decV (k : Nat) (l : List UInt8) : Value := .tuple #[.string (str (decodeL k l)), .bool (decide (0 < k))]
set_option maxHeartbeats 2000000 in
theorem charsDecode_any (label s : ByteArray) (w : World) (hl : label.size ≤ 70368744177664) (hs : s.size ≤ 1048576) (hT : Tab w) :
    Calls Tryz.prog 195 #[.string label, .string s] w fun e w' => e = .returned (decV (kindL label.data.toList) s.data.toList) ∧ Below w.heap.size w w' := by
  have HT := hide hT
  have H0 := hide hT.lt
  clear hT
  have HK := hide (fun (w : World) => known_any label w hl)
  have hk5 := kind_lt label.data.toList
  generalize kindL label.data.toList = k at HK hk5
  have hk : k = 0 ∨ k = 1 ∨ k = 2 ∨ k = 3 ∨ k = 4 := by omega
  clear hk5
  have KV0 : Hid (knownV 0 = .tuple #[.string ⟨#[]⟩, .bool false]) := hide rfl
  have KV1 : Hid (knownV 1 = .tuple #[.string ⟨#[117, 116, 102, 45, 56]⟩, .bool true]) := hide rfl
  have KV2 : Hid (knownV 2 = .tuple #[.string ⟨#[119, 105, 110, 100, 111, 119, 115, 45, 49, 50, 53, 50]⟩, .bool true]) := hide rfl
  have KV3 : Hid (knownV 3 = .tuple #[.string ⟨#[117, 116, 102, 45, 49, 54, 108, 101]⟩, .bool true]) := hide rfl
  have KV4 : Hid (knownV 4 = .tuple #[.string ⟨#[117, 116, 102, 45, 49, 54, 98, 101]⟩, .bool true]) := hide rfl
  have P3 := hide (fun (w : World) => fromPairs_any s false w hs)
  have P4 := hide (fun (w : World) => fromPairs_any s true w hs)
  rw [show hiAt false = 1 from rfl] at P3
  rw [show hiAt true = 0 from rfl] at P4
  rcases hk with rfl | rfl | rfl | rfl | rfl
  · go_enter Tryz.func195, Tryz.ntmps195
    go_wp2_with fail
    refine (HK.out _).mono ?_
    rintro e w1 ⟨rfl, hb1⟩
    rw [KV0.out]
    go_wp2_with fail
    refine (valid_any s _ hs).mono ?_
    rintro e w2 ⟨rfl, hb2⟩
    go_wp2_with fail
    go_ret2
    exact ⟨rfl, hb1.trans (hb2.mono hb1.size)⟩
  · go_enter Tryz.func195, Tryz.ntmps195
    go_wp2_with fail
    refine (HK.out _).mono ?_
    rintro e w1 ⟨rfl, hb1⟩
    rw [KV1.out]
    go_wp2_with fail
    refine (valid_any s _ hs).mono ?_
    rintro e w2 ⟨rfl, hb2⟩
    go_wp2_with fail
    go_ret2
    exact ⟨rfl, hb1.trans (hb2.mono hb1.size)⟩
  · go_enter Tryz.func195, Tryz.ntmps195
    go_wp2_with fail
    refine (HK.out _).mono ?_
    rintro e w1 ⟨rfl, hb1⟩
    rw [KV2.out]
    go_wp2_with fail
    refine (fromWindows_any s _ hs (HT.out.below hb1 H0.out)).mono ?_
    rintro e w2 ⟨rfl, hb2⟩
    go_wp2_with fail
    go_ret2
    exact ⟨rfl, hb1.trans (hb2.mono hb1.size)⟩
  · go_enter Tryz.func195, Tryz.ntmps195
    go_wp2_with fail
    refine (HK.out _).mono ?_
    rintro e w1 ⟨rfl, hb1⟩
    rw [KV3.out]
    go_wp2_with fail
    refine (P3.out _).mono ?_
    rintro e w2 ⟨rfl, hb2⟩
    go_wp2_with fail
    go_ret2
    exact ⟨rfl, hb1.trans (hb2.mono hb1.size)⟩
  · go_enter Tryz.func195, Tryz.ntmps195
    go_wp2_with fail
    refine (HK.out _).mono ?_
    rintro e w1 ⟨rfl, hb1⟩
    rw [KV4.out]
    go_wp2_with fail
    refine (P4.out _).mono ?_
    rintro e w2 ⟨rfl, hb2⟩
    go_wp2_with fail
    go_ret2
    exact ⟨rfl, hb1.trans (hb2.mono hb1.size)⟩
end Go.Proofs.YtiejmkjpgjbodaaGreatDoor

namespace Go.Proofs.YtiejmkjpgjbodaaGreatDoor
open Go.RowKit
set_option linter.unusedVariables false
set_option linter.unusedSimpArgs false
set_option maxRecDepth 100000
def signN (n : Nat) : Int := if n = 0 ∨ 1114111 < n ∨ (55296 ≤ n ∧ n ≤ 57343) then 65533 else if 128 ≤ n ∧ n ≤ 159 then winR (UInt8.ofNat n) else n
theorem win_dec (c : UInt8) : (decL (runeL (winR c))).1 = (winR c).toNat ∧ 0 ≤ winR c := by
  have := u8_all (p := fun c => (decL (runeL (winR c))).1 = (winR c).toNat ∧ 0 ≤ winR c) (by decide +kernel) c
  exact this
theorem dec_win (c : UInt8) : Lib.decodeGo (str (runeL (winR c))) = ((winR c).toNat, (decL (runeL (winR c))).2) := by
  have hl := (runeL_length (winR c)).1
  have hz : (str (runeL (winR c))).size ≠ 0 := by rw [str_size]; omega
  unfold Lib.decodeGo
  rw [if_neg hz, decode_decL _ _ (by omega), List.drop_zero, str_toList]
  exact Prod.ext (win_dec c).1 rfl
theorem signN_window {n : Nat} (h1 : 128 ≤ n) (h2 : n ≤ 159) : signN n = winR (UInt8.ofNat n) := by
  unfold signN; rw [if_neg (by omega), if_pos ⟨h1, h2⟩]
theorem signN_bad {n : Nat} (h : n = 0 ∨ 1114111 < n ∨ (55296 ≤ n ∧ n ≤ 57343)) : signN n = 65533 := by unfold signN; rw [if_pos h]
theorem signN_own {n : Nat} (h : ¬ (n = 0 ∨ 1114111 < n ∨ (55296 ≤ n ∧ n ≤ 57343))) (h' : ¬ (128 ≤ n ∧ n ≤ 159)) : signN n = n := by unfold signN; rw [if_neg h, if_neg h']
theorem tabs_lt {w : World} (h : Lib.Utf8Tabs 4 5 w) : 4 < w.heap.size ∧ 5 < w.heap.size :=
  ⟨World.block_lt_of_cell? _ _ (h.1 0 (by decide)), World.block_lt_of_cell? _ _ (h.2 0 (by decide)).1⟩
theorem tabs_kept {w w' : World} (h : Lib.Utf8Tabs 4 5 w) (hb : Below w.heap.size w w') : Lib.Utf8Tabs 4 5 w' := by
  obtain ⟨l1, l2⟩ := tabs_lt h
  exact ⟨fun c hc => (hb.cell (p := ⟨4, c, none⟩) l1).trans (h.1 c hc), fun i hi => ⟨(hb.cell (p := ⟨5, 2 * i, none⟩) l2).trans (h.2 i hi).1, (hb.cell (p := ⟨5, 2 * i + 1, none⟩) l2).trans (h.2 i hi).2⟩⟩
theorem kind_win : kindL [119, 105, 110, 100, 111, 119, 115, 45, 49, 50, 53, 50] = 2 := by decide +kernel
set_option maxHeartbeats 4000000 in
theorem signOf_any (n : Nat) (w : World) (hn : n < 2147483648) (hT : Tab w) (hU : Lib.Utf8Tabs 4 5 w) :
    Calls Tryz.prog 171 #[.int .i32 n] w fun e w' => e = .returned (.int .i32 (signN n)) ∧ Below w.heap.size w w' := by
  by_cases c0 : n = 0
  · have HR : Hid (signN n = 65533) := hide (signN_bad (.inl c0))
    subst c0
    go_enter Tryz.func171, Tryz.ntmps171
    go_wp2_with fail
    go_ret
    exact ⟨by rw [HR.out]; rfl, Below.refl _ _⟩
  have t0 : ((n : Int) == 0) = false := beq_eq_false_iff_ne.2 (by omega)
  by_cases c1 : 1114111 < n
  · have HR : Hid (signN n = 65533) := hide (signN_bad (.inr (.inl c1)))
    have t1 : decide ((1114111 : Int) < n) = true := decide_eq_true (by omega)
    clear c0
    go_enter Tryz.func171, Tryz.ntmps171
    go_wp2_with fail
    go_ret
    exact ⟨by rw [HR.out]; rfl, Below.refl _ _⟩
  have t1 : decide ((1114111 : Int) < n) = false := decide_eq_false (by omega)
  by_cases c2 : 55296 ≤ n
  · have t2 : decide ((55296 : Int) ≤ n) = true := decide_eq_true (by omega)
    by_cases c3 : n ≤ 57343
    · have HR : Hid (signN n = 65533) := hide (signN_bad (.inr (.inr ⟨c2, c3⟩)))
      have t3 : decide ((n : Int) ≤ 57343) = true := decide_eq_true (by omega)
      clear c0 c1 c2 c3
      go_enter Tryz.func171, Tryz.ntmps171
      go_wp2_with fail
      go_ret
      exact ⟨by rw [HR.out]; rfl, Below.refl _ _⟩
    · have HR : Hid (signN n = n) := hide (signN_own (by omega) (by omega))
      have t3 : decide ((n : Int) ≤ 57343) = false := decide_eq_false (by omega)
      have t4 : decide ((128 : Int) ≤ n) = true := decide_eq_true (by omega)
      have t5 : decide ((n : Int) ≤ 159) = false := decide_eq_false (by omega)
      clear c0 c1 c2 c3
      go_enter Tryz.func171, Tryz.ntmps171
      go_wp2_with fail
      go_ret
      exact ⟨by rw [HR.out]; rfl, Below.refl _ _⟩
  have t2 : decide ((55296 : Int) ≤ n) = false := decide_eq_false (by omega)
  by_cases c4 : 128 ≤ n
  · have t4 : decide ((128 : Int) ≤ n) = true := decide_eq_true (by omega)
    by_cases c5 : n ≤ 159
    · have t5 : decide ((n : Int) ≤ 159) = true := decide_eq_true (by omega)
      obtain ⟨c, hc⟩ : ∃ c, c = UInt8.ofNat n := ⟨_, rfl⟩
      have hcn : c.toNat = n := by rw [hc, UInt8.toNat_ofNat', Nat.mod_eq_of_lt (by omega)]
      have HR : Hid (signN n = winR c) := hide (by rw [hc]; exact signN_window c4 c5)
      have x1 : IntKind.u8.wrap (n : Int) = (n : Int) := IntWalk.u8_in _ (by omega)
      have hbs : strOfNums [(n : Int)] = ⟨#[c]⟩ := by rw [← hcn]; apply ext_list; rw [nums_list]; simp
      have hcv := conv1 w (n : Int)
      rw [hbs] at hcv
      have HD := hide (fun w1 (h1 : Tab w1) => charsDecode_any ⟨#[119, 105, 110, 100, 111, 119, 115, 45, 49, 50, 53, 50]⟩ ⟨#[c]⟩ w1 (by decide) (by show (⟨#[c]⟩ : ByteArray).size ≤ _; rw [show (⟨#[c]⟩ : ByteArray).size = 1 from rfl]; decide) h1)
      have eD : decV (kindL (⟨#[119, 105, 110, 100, 111, 119, 115, 45, 49, 50, 53, 50]⟩ : ByteArray).data.toList) (⟨#[c]⟩ : ByteArray).data.toList = .tuple #[.string (str (runeL (winR c))), .bool true] := by
        rw [show (⟨#[119, 105, 110, 100, 111, 119, 115, 45, 49, 50, 53, 50]⟩ : ByteArray).data.toList = [119, 105, 110, 100, 111, 119, 115, 45, 49, 50, 53, 50] from rfl, kind_win]
        show Value.tuple #[.string (str (winL [c])), .bool true] = _
        rw [winL_cons]
        show Value.tuple #[.string (str (runeL (winR c) ++ [])), .bool true] = _
        rw [List.append_nil]
      rw [eD] at HD
      have HU := hide (fun w1 h1 => Tryz.utf8_DecodeRuneInString (str (runeL (winR c))) w1 h1)
      rw [dec_win] at HU
      have hp : ((winR c).toNat : Int) = winR c := Int.toNat_of_nonneg (win_dec c).2
      rw [show (((winR c).toNat, (decL (runeL (winR c))).2) : Nat × Nat).1 = (winR c).toNat from rfl, hp] at HU
      have KB : Hid (Below w.heap.size w (w.alloc (.cells #[.int .u8 (n : Int)] 5))) := hide ((Below.refl _ _).alloc (Nat.le_refl _) _)
      have HT := hide (hT.below KB.out hT.lt)
      have HTU := hide hU
      obtain ⟨S, hS⟩ : ∃ S, str (runeL (winR c)) = S := ⟨_, rfl⟩
      obtain ⟨R, hR⟩ : ∃ R, winR c = R := ⟨_, rfl⟩
      rw [hS] at HD HU
      rw [hR] at HU HR
      clear c0 c1 c2 c4 c5 hc hcn hbs eD hp hS hR hT hU
      go_enter Tryz.func171, Tryz.ntmps171
      go_wp2_with (first
        | (go_at_call 195; refine (HD.out _ HT.out).mono ?_; rintro e w1 ⟨rfl, hb1⟩; have HB1 := hide (KB.out.trans (hb1.mono KB.out.size)); clear hb1)
        | (go_at_call 196; refine (HU.out _ (tabs_kept HTU.out HB1.out)).mono ?_; rintro e w2 ⟨rfl, hb2⟩; have HB2 := hide (HB1.out.trans (hb2.mono HB1.out.size)); clear hb2))
      go_ret
      exact ⟨by rw [HR.out]; rfl, HB2.out⟩
    · have HR : Hid (signN n = n) := hide (signN_own (by omega) (by omega))
      have t5 : decide ((n : Int) ≤ 159) = false := decide_eq_false (by omega)
      clear c0 c1 c2 c4 c5
      go_enter Tryz.func171, Tryz.ntmps171
      go_wp2_with fail
      go_ret
      exact ⟨by rw [HR.out]; rfl, Below.refl _ _⟩
  · have HR : Hid (signN n = n) := hide (signN_own (by omega) (by omega))
    have t4 : decide ((128 : Int) ≤ n) = false := decide_eq_false (by omega)
    clear c0 c1 c2 c4
    go_enter Tryz.func171, Tryz.ntmps171
    go_wp2_with fail
    go_ret
    exact ⟨by rw [HR.out]; rfl, Below.refl _ _⟩
end Go.Proofs.YtiejmkjpgjbodaaGreatDoor

namespace Go.Proofs.YtiejmkjpgjbodaaGreatDoor
open Go.RowKit
set_option linter.unusedVariables false
set_option linter.unusedSimpArgs false
set_option maxRecDepth 100000
def numAt (b most : Nat) (l : List UInt8) : Option Int :=
  match parseU b l with
  | none => none
  | some n => if most < l.length then none else some (signN n)
def entV : Option Int → Value
  | some x => .tuple #[.int .i32 x, .bool true]
  | none => .tuple #[.int .i32 0, .bool false]
theorem parseB_lt {b : Nat} (hb : 0 < b) (l : List UInt8) : ∀ m n, parseB b m l = some n → n + 1 ≤ (m + 1) * b ^ l.length := by
  induction l with
  | nil => intro m n h; injection h with h; subst h; simp
  | cons c r ih =>
    intro m n h
    rw [parseB] at h
    unfold digB at h
    by_cases hd : dgV c < b
    · rw [if_pos hd] at h
      have h1 := ih _ _ h
      have h2 : m * b + dgV c + 1 ≤ (m + 1) * b := by rw [Nat.succ_mul]; omega
      have h3 := Nat.mul_le_mul_right (b ^ r.length) h2
      rw [List.length_cons, Nat.pow_succ, Nat.mul_comm (b ^ r.length) b, ← Nat.mul_assoc]
      exact Nat.le_trans h1 h3
    · rw [if_neg hd] at h; cases h
theorem parse_lt {b : Nat} {l : List UInt8} (hb : 0 < b) : ∀ n, parseU b l = some n → n < b ^ l.length := by
  intro n h
  unfold parseU at h
  split at h
  · cases h
  · have := parseB_lt hb l 0 n h
    rw [Nat.zero_add, Nat.one_mul] at this
    exact this
theorem pref_size {D : ByteArray} {c : UInt8} (h : Lib.hasPrefix D.data.toList [c] = true) : 1 ≤ D.size := by
  rw [← toList_length]
  cases hl : D.data.toList with
  | nil => rw [hl] at h; cases h
  | cons a r => exact Nat.succ_pos _
set_option maxHeartbeats 4000000 in
theorem byNumber_x (D : ByteArray) (ev : Value) (w : World) (hs : D.size ≤ 8) (p1 : Lib.hasPrefix D.data.toList [120] = true) (hT : Tab w) (hU : Lib.Utf8Tabs 4 5 w)
    (hv : w.cell? ⟨1, 0, none⟩ = some ev) (hev : ev = .nilIface ∨ ∃ te pe, ev = .iface te pe) :
    Calls Tryz.prog 146 #[.string D] w fun e w' => e = .returned (entV (numAt 16 6 (D.extract 1 D.size).data.toList)) ∧ Below w.heap.size w w' := by
  have z1 : 1 ≤ D.size := pref_size p1
  have k1 : (1 : Int) ≤ D.size := by omega
  have P1 : Hid (Lib.hasPrefix D.data.toList [120] = true) := hide p1
  have HT := hide hT
  have HTU := hide hU
  have HC := hide (fun w1 (hb : Below w.heap.size w w1) => parse16_any (D.extract 1 D.size) ev w1 (Nat.le_trans (by rw [ByteArray.size_extract]; omega) hs) ((hb.cell (p := ⟨1, 0, none⟩) (World.block_lt_of_cell? _ _ hv)).trans hv) hev)
  have tok1 : True := trivial
  have tok2 : True := trivial
  have hrl : (D.extract 1 D.size).size = (D.size - 1) := (by rw [ByteArray.size_extract]; omega)
  have HB0 := hide (parse_lt (b := 16) (l := (D.extract 1 D.size).data.toList) (by decide))
  cases hu : parseU 16 (D.extract 1 D.size).data.toList with
  | none =>
    have HU := hide hu
    have HR : Hid (numAt 16 6 (D.extract 1 D.size).data.toList = none) := hide (by unfold numAt; rw [hu])
    clear hu hT hU hv hev p1
    go_enter Tryz.func146, Tryz.ntmps146
    go_wp2_with (first
      | (go_at_call 65; have _t := tok1; refine (Tryz.strings_HasPrefix D ⟨#[120]⟩ _).mono ?_; rintro e w1 ⟨rfl, hw1⟩; obtain rfl := hw1.symm; rw [show (⟨#[120]⟩ : ByteArray).data.toList = [120] from rfl, P1.out]; clear tok1)
      | (go_at_call 170; refine (HC.out _ (Below.refl _ _)).mono ?_; rintro e w1 ⟨he, hb1⟩; rw [HU.out] at he; obtain ⟨N, rfl⟩ := he; have HB1 := hide hb1; clear hb1)
      | (go_at_call 171; refine (signOf_any _ _ HN31.out (HT.out.below HB1.out HT.out.lt) (tabs_kept HTU.out HB1.out)).mono ?_; rintro e w2 ⟨rfl, hb2⟩; have HB2 := hide (HB1.out.trans (hb2.mono HB1.out.size)); clear hb2))
    go_ret2
    exact ⟨by rw [HR.out]; rfl, HB1.out⟩
  | some n =>
    have HU := hide hu
    have hlt := HB0.out n hu
    rw [toList_length, hrl] at hlt
    by_cases hm : 6 < (D.size - 1)
    · have HR : Hid (numAt 16 6 (D.extract 1 D.size).data.toList = none) := hide (by unfold numAt; rw [hu]; simp only []; rw [toList_length, hrl, if_pos hm])
      have t1 : decide ((6 : Int) < ((D.extract 1 D.size).size : Int)) = true := decide_eq_true (by rw [hrl]; omega)
      have t2 : decide (6 < (D.extract 1 D.size).size) = true := decide_eq_true (by rw [hrl]; exact hm)
      have t3 : decide ((6 : Int) < (((D.size - 1) : Nat) : Int)) = true := decide_eq_true (by omega)
      have t4 : decide (6 < (D.size - 1)) = true := decide_eq_true hm
      clear hu hT hU hv hev p1 hlt hm hrl
      go_enter Tryz.func146, Tryz.ntmps146
      go_wp2_with (first
      | (go_at_call 65; have _t := tok1; refine (Tryz.strings_HasPrefix D ⟨#[120]⟩ _).mono ?_; rintro e w1 ⟨rfl, hw1⟩; obtain rfl := hw1.symm; rw [show (⟨#[120]⟩ : ByteArray).data.toList = [120] from rfl, P1.out]; clear tok1)
      | (go_at_call 170; refine (HC.out _ (Below.refl _ _)).mono ?_; rintro e w1 ⟨he, hb1⟩; rw [HU.out] at he; obtain rfl := he; have HB1 := hide hb1; clear hb1)
      | (go_at_call 171; refine (signOf_any _ _ HN31.out (HT.out.below HB1.out HT.out.lt) (tabs_kept HTU.out HB1.out)).mono ?_; rintro e w2 ⟨rfl, hb2⟩; have HB2 := hide (HB1.out.trans (hb2.mono HB1.out.size)); clear hb2))
      go_ret2
      exact ⟨by rw [HR.out]; rfl, HB1.out⟩
    · have HR : Hid (numAt 16 6 (D.extract 1 D.size).data.toList = some (signN n)) := hide (by unfold numAt; rw [hu]; simp only []; rw [toList_length, hrl, if_neg hm])
      have t1 : decide ((6 : Int) < ((D.extract 1 D.size).size : Int)) = false := decide_eq_false (by rw [hrl]; omega)
      have t2 : decide (6 < (D.extract 1 D.size).size) = false := decide_eq_false (by rw [hrl]; exact hm)
      have t3 : decide ((6 : Int) < (((D.size - 1) : Nat) : Int)) = false := decide_eq_false (by omega)
      have t4 : decide (6 < (D.size - 1)) = false := decide_eq_false hm
      have hn31 : n < 2147483648 := Nat.lt_of_lt_of_le hlt (Nat.le_trans (Nat.pow_le_pow_right (by decide) (by omega : (D.size - 1) ≤ 6)) (by decide))
      have HN31 := hide hn31
      have x1 : IntKind.i32.wrap (n : Int) = (n : Int) := IntWalk.i32_in _ (by omega)
      clear hu hT hU hv hev p1 hlt hm hrl hn31
      go_enter Tryz.func146, Tryz.ntmps146
      go_wp2_with (first
      | (go_at_call 65; have _t := tok1; refine (Tryz.strings_HasPrefix D ⟨#[120]⟩ _).mono ?_; rintro e w1 ⟨rfl, hw1⟩; obtain rfl := hw1.symm; rw [show (⟨#[120]⟩ : ByteArray).data.toList = [120] from rfl, P1.out]; clear tok1)
      | (go_at_call 170; refine (HC.out _ (Below.refl _ _)).mono ?_; rintro e w1 ⟨he, hb1⟩; rw [HU.out] at he; obtain rfl := he; have HB1 := hide hb1; clear hb1)
      | (go_at_call 171; refine (signOf_any _ _ HN31.out (HT.out.below HB1.out HT.out.lt) (tabs_kept HTU.out HB1.out)).mono ?_; rintro e w2 ⟨rfl, hb2⟩; have HB2 := hide (HB1.out.trans (hb2.mono HB1.out.size)); clear hb2))
      go_ret2
      exact ⟨by rw [HR.out]; rfl, HB2.out⟩
set_option maxHeartbeats 4000000 in
theorem byNumber_X (D : ByteArray) (ev : Value) (w : World) (hs : D.size ≤ 8) (p1 : Lib.hasPrefix D.data.toList [120] = false) (p2 : Lib.hasPrefix D.data.toList [88] = true) (hT : Tab w) (hU : Lib.Utf8Tabs 4 5 w)
    (hv : w.cell? ⟨1, 0, none⟩ = some ev) (hev : ev = .nilIface ∨ ∃ te pe, ev = .iface te pe) :
    Calls Tryz.prog 146 #[.string D] w fun e w' => e = .returned (entV (numAt 16 6 (D.extract 1 D.size).data.toList)) ∧ Below w.heap.size w w' := by
  have z1 : 1 ≤ D.size := pref_size p2
  have k1 : (1 : Int) ≤ D.size := by omega
  have P1 : Hid (Lib.hasPrefix D.data.toList [120] = false) := hide p1
  have P2 : Hid (Lib.hasPrefix D.data.toList [88] = true) := hide p2
  have HT := hide hT
  have HTU := hide hU
  have HC := hide (fun w1 (hb : Below w.heap.size w w1) => parse16_any (D.extract 1 D.size) ev w1 (Nat.le_trans (by rw [ByteArray.size_extract]; omega) hs) ((hb.cell (p := ⟨1, 0, none⟩) (World.block_lt_of_cell? _ _ hv)).trans hv) hev)
  have tok1 : True := trivial
  have tok2 : True := trivial
  have hrl : (D.extract 1 D.size).size = (D.size - 1) := (by rw [ByteArray.size_extract]; omega)
  have HB0 := hide (parse_lt (b := 16) (l := (D.extract 1 D.size).data.toList) (by decide))
  cases hu : parseU 16 (D.extract 1 D.size).data.toList with
  | none =>
    have HU := hide hu
    have HR : Hid (numAt 16 6 (D.extract 1 D.size).data.toList = none) := hide (by unfold numAt; rw [hu])
    clear hu hT hU hv hev p1 p2
    go_enter Tryz.func146, Tryz.ntmps146
    go_wp2_with (first
      | (go_at_call 65; have _t := tok1; refine (Tryz.strings_HasPrefix D ⟨#[120]⟩ _).mono ?_; rintro e w1 ⟨rfl, hw1⟩; obtain rfl := hw1.symm; rw [show (⟨#[120]⟩ : ByteArray).data.toList = [120] from rfl, P1.out]; clear tok1)
      | (go_at_call 65; have _t := tok2; refine (Tryz.strings_HasPrefix D ⟨#[88]⟩ _).mono ?_; rintro e w1 ⟨rfl, hw1⟩; obtain rfl := hw1.symm; rw [show (⟨#[88]⟩ : ByteArray).data.toList = [88] from rfl, P2.out]; clear tok2)
      | (go_at_call 170; refine (HC.out _ (Below.refl _ _)).mono ?_; rintro e w1 ⟨he, hb1⟩; rw [HU.out] at he; obtain ⟨N, rfl⟩ := he; have HB1 := hide hb1; clear hb1)
      | (go_at_call 171; refine (signOf_any _ _ HN31.out (HT.out.below HB1.out HT.out.lt) (tabs_kept HTU.out HB1.out)).mono ?_; rintro e w2 ⟨rfl, hb2⟩; have HB2 := hide (HB1.out.trans (hb2.mono HB1.out.size)); clear hb2))
    go_ret2
    exact ⟨by rw [HR.out]; rfl, HB1.out⟩
  | some n =>
    have HU := hide hu
    have hlt := HB0.out n hu
    rw [toList_length, hrl] at hlt
    by_cases hm : 6 < (D.size - 1)
    · have HR : Hid (numAt 16 6 (D.extract 1 D.size).data.toList = none) := hide (by unfold numAt; rw [hu]; simp only []; rw [toList_length, hrl, if_pos hm])
      have t1 : decide ((6 : Int) < ((D.extract 1 D.size).size : Int)) = true := decide_eq_true (by rw [hrl]; omega)
      have t2 : decide (6 < (D.extract 1 D.size).size) = true := decide_eq_true (by rw [hrl]; exact hm)
      have t3 : decide ((6 : Int) < (((D.size - 1) : Nat) : Int)) = true := decide_eq_true (by omega)
      have t4 : decide (6 < (D.size - 1)) = true := decide_eq_true hm
      clear hu hT hU hv hev p1 p2 hlt hm hrl
      go_enter Tryz.func146, Tryz.ntmps146
      go_wp2_with (first
      | (go_at_call 65; have _t := tok1; refine (Tryz.strings_HasPrefix D ⟨#[120]⟩ _).mono ?_; rintro e w1 ⟨rfl, hw1⟩; obtain rfl := hw1.symm; rw [show (⟨#[120]⟩ : ByteArray).data.toList = [120] from rfl, P1.out]; clear tok1)
      | (go_at_call 65; have _t := tok2; refine (Tryz.strings_HasPrefix D ⟨#[88]⟩ _).mono ?_; rintro e w1 ⟨rfl, hw1⟩; obtain rfl := hw1.symm; rw [show (⟨#[88]⟩ : ByteArray).data.toList = [88] from rfl, P2.out]; clear tok2)
      | (go_at_call 170; refine (HC.out _ (Below.refl _ _)).mono ?_; rintro e w1 ⟨he, hb1⟩; rw [HU.out] at he; obtain rfl := he; have HB1 := hide hb1; clear hb1)
      | (go_at_call 171; refine (signOf_any _ _ HN31.out (HT.out.below HB1.out HT.out.lt) (tabs_kept HTU.out HB1.out)).mono ?_; rintro e w2 ⟨rfl, hb2⟩; have HB2 := hide (HB1.out.trans (hb2.mono HB1.out.size)); clear hb2))
      go_ret2
      exact ⟨by rw [HR.out]; rfl, HB1.out⟩
    · have HR : Hid (numAt 16 6 (D.extract 1 D.size).data.toList = some (signN n)) := hide (by unfold numAt; rw [hu]; simp only []; rw [toList_length, hrl, if_neg hm])
      have t1 : decide ((6 : Int) < ((D.extract 1 D.size).size : Int)) = false := decide_eq_false (by rw [hrl]; omega)
      have t2 : decide (6 < (D.extract 1 D.size).size) = false := decide_eq_false (by rw [hrl]; exact hm)
      have t3 : decide ((6 : Int) < (((D.size - 1) : Nat) : Int)) = false := decide_eq_false (by omega)
      have t4 : decide (6 < (D.size - 1)) = false := decide_eq_false hm
      have hn31 : n < 2147483648 := Nat.lt_of_lt_of_le hlt (Nat.le_trans (Nat.pow_le_pow_right (by decide) (by omega : (D.size - 1) ≤ 6)) (by decide))
      have HN31 := hide hn31
      have x1 : IntKind.i32.wrap (n : Int) = (n : Int) := IntWalk.i32_in _ (by omega)
      clear hu hT hU hv hev p1 p2 hlt hm hrl hn31
      go_enter Tryz.func146, Tryz.ntmps146
      go_wp2_with (first
      | (go_at_call 65; have _t := tok1; refine (Tryz.strings_HasPrefix D ⟨#[120]⟩ _).mono ?_; rintro e w1 ⟨rfl, hw1⟩; obtain rfl := hw1.symm; rw [show (⟨#[120]⟩ : ByteArray).data.toList = [120] from rfl, P1.out]; clear tok1)
      | (go_at_call 65; have _t := tok2; refine (Tryz.strings_HasPrefix D ⟨#[88]⟩ _).mono ?_; rintro e w1 ⟨rfl, hw1⟩; obtain rfl := hw1.symm; rw [show (⟨#[88]⟩ : ByteArray).data.toList = [88] from rfl, P2.out]; clear tok2)
      | (go_at_call 170; refine (HC.out _ (Below.refl _ _)).mono ?_; rintro e w1 ⟨he, hb1⟩; rw [HU.out] at he; obtain rfl := he; have HB1 := hide hb1; clear hb1)
      | (go_at_call 171; refine (signOf_any _ _ HN31.out (HT.out.below HB1.out HT.out.lt) (tabs_kept HTU.out HB1.out)).mono ?_; rintro e w2 ⟨rfl, hb2⟩; have HB2 := hide (HB1.out.trans (hb2.mono HB1.out.size)); clear hb2))
      go_ret2
      exact ⟨by rw [HR.out]; rfl, HB2.out⟩
set_option maxHeartbeats 4000000 in
theorem byNumber_d (D : ByteArray) (ev : Value) (w : World) (hs : D.size ≤ 8) (p1 : Lib.hasPrefix D.data.toList [120] = false) (p2 : Lib.hasPrefix D.data.toList [88] = false) (hT : Tab w) (hU : Lib.Utf8Tabs 4 5 w)
    (hv : w.cell? ⟨1, 0, none⟩ = some ev) (hev : ev = .nilIface ∨ ∃ te pe, ev = .iface te pe) :
    Calls Tryz.prog 146 #[.string D] w fun e w' => e = .returned (entV (numAt 10 7 D.data.toList)) ∧ Below w.heap.size w w' := by
  have P1 : Hid (Lib.hasPrefix D.data.toList [120] = false) := hide p1
  have P2 : Hid (Lib.hasPrefix D.data.toList [88] = false) := hide p2
  have HT := hide hT
  have HTU := hide hU
  have HC := hide (fun w1 (hb : Below w.heap.size w w1) => parse10_any D ev w1 hs ((hb.cell (p := ⟨1, 0, none⟩) (World.block_lt_of_cell? _ _ hv)).trans hv) hev)
  have tok1 : True := trivial
  have tok2 : True := trivial
  have hrl : D.size = D.size := rfl
  have HB0 := hide (parse_lt (b := 10) (l := D.data.toList) (by decide))
  cases hu : parseU 10 D.data.toList with
  | none =>
    have HU := hide hu
    have HR : Hid (numAt 10 7 D.data.toList = none) := hide (by unfold numAt; rw [hu])
    clear hu hT hU hv hev p1 p2
    go_enter Tryz.func146, Tryz.ntmps146
    go_wp2_with (first
      | (go_at_call 65; have _t := tok1; refine (Tryz.strings_HasPrefix D ⟨#[120]⟩ _).mono ?_; rintro e w1 ⟨rfl, hw1⟩; obtain rfl := hw1.symm; rw [show (⟨#[120]⟩ : ByteArray).data.toList = [120] from rfl, P1.out]; clear tok1)
      | (go_at_call 65; have _t := tok2; refine (Tryz.strings_HasPrefix D ⟨#[88]⟩ _).mono ?_; rintro e w1 ⟨rfl, hw1⟩; obtain rfl := hw1.symm; rw [show (⟨#[88]⟩ : ByteArray).data.toList = [88] from rfl, P2.out]; clear tok2)
      | (go_at_call 170; refine (HC.out _ (Below.refl _ _)).mono ?_; rintro e w1 ⟨he, hb1⟩; rw [HU.out] at he; obtain ⟨N, rfl⟩ := he; have HB1 := hide hb1; clear hb1)
      | (go_at_call 171; refine (signOf_any _ _ HN31.out (HT.out.below HB1.out HT.out.lt) (tabs_kept HTU.out HB1.out)).mono ?_; rintro e w2 ⟨rfl, hb2⟩; have HB2 := hide (HB1.out.trans (hb2.mono HB1.out.size)); clear hb2))
    go_ret2
    exact ⟨by rw [HR.out]; rfl, HB1.out⟩
  | some n =>
    have HU := hide hu
    have hlt := HB0.out n hu
    rw [toList_length, hrl] at hlt
    by_cases hm : 7 < D.size
    · have HR : Hid (numAt 10 7 D.data.toList = none) := hide (by unfold numAt; rw [hu]; simp only []; rw [toList_length, hrl, if_pos hm])
      have t1 : decide ((7 : Int) < (D.size : Int)) = true := decide_eq_true (by rw [hrl]; omega)
      have t2 : decide (7 < D.size) = true := decide_eq_true (by rw [hrl]; exact hm)
      have t3 : decide ((7 : Int) < ((D.size : Nat) : Int)) = true := decide_eq_true (by omega)
      have t4 : decide (7 < D.size) = true := decide_eq_true hm
      clear hu hT hU hv hev p1 p2 hlt hm hrl
      go_enter Tryz.func146, Tryz.ntmps146
      go_wp2_with (first
      | (go_at_call 65; have _t := tok1; refine (Tryz.strings_HasPrefix D ⟨#[120]⟩ _).mono ?_; rintro e w1 ⟨rfl, hw1⟩; obtain rfl := hw1.symm; rw [show (⟨#[120]⟩ : ByteArray).data.toList = [120] from rfl, P1.out]; clear tok1)
      | (go_at_call 65; have _t := tok2; refine (Tryz.strings_HasPrefix D ⟨#[88]⟩ _).mono ?_; rintro e w1 ⟨rfl, hw1⟩; obtain rfl := hw1.symm; rw [show (⟨#[88]⟩ : ByteArray).data.toList = [88] from rfl, P2.out]; clear tok2)
      | (go_at_call 170; refine (HC.out _ (Below.refl _ _)).mono ?_; rintro e w1 ⟨he, hb1⟩; rw [HU.out] at he; obtain rfl := he; have HB1 := hide hb1; clear hb1)
      | (go_at_call 171; refine (signOf_any _ _ HN31.out (HT.out.below HB1.out HT.out.lt) (tabs_kept HTU.out HB1.out)).mono ?_; rintro e w2 ⟨rfl, hb2⟩; have HB2 := hide (HB1.out.trans (hb2.mono HB1.out.size)); clear hb2))
      go_ret2
      exact ⟨by rw [HR.out]; rfl, HB1.out⟩
    · have HR : Hid (numAt 10 7 D.data.toList = some (signN n)) := hide (by unfold numAt; rw [hu]; simp only []; rw [toList_length, hrl, if_neg hm])
      have t1 : decide ((7 : Int) < (D.size : Int)) = false := decide_eq_false (by rw [hrl]; omega)
      have t2 : decide (7 < D.size) = false := decide_eq_false (by rw [hrl]; exact hm)
      have t3 : decide ((7 : Int) < ((D.size : Nat) : Int)) = false := decide_eq_false (by omega)
      have t4 : decide (7 < D.size) = false := decide_eq_false hm
      have hn31 : n < 2147483648 := Nat.lt_of_lt_of_le hlt (Nat.le_trans (Nat.pow_le_pow_right (by decide) (by omega : D.size ≤ 7)) (by decide))
      have HN31 := hide hn31
      have x1 : IntKind.i32.wrap (n : Int) = (n : Int) := IntWalk.i32_in _ (by omega)
      clear hu hT hU hv hev p1 p2 hlt hm hrl hn31
      go_enter Tryz.func146, Tryz.ntmps146
      go_wp2_with (first
      | (go_at_call 65; have _t := tok1; refine (Tryz.strings_HasPrefix D ⟨#[120]⟩ _).mono ?_; rintro e w1 ⟨rfl, hw1⟩; obtain rfl := hw1.symm; rw [show (⟨#[120]⟩ : ByteArray).data.toList = [120] from rfl, P1.out]; clear tok1)
      | (go_at_call 65; have _t := tok2; refine (Tryz.strings_HasPrefix D ⟨#[88]⟩ _).mono ?_; rintro e w1 ⟨rfl, hw1⟩; obtain rfl := hw1.symm; rw [show (⟨#[88]⟩ : ByteArray).data.toList = [88] from rfl, P2.out]; clear tok2)
      | (go_at_call 170; refine (HC.out _ (Below.refl _ _)).mono ?_; rintro e w1 ⟨he, hb1⟩; rw [HU.out] at he; obtain rfl := he; have HB1 := hide hb1; clear hb1)
      | (go_at_call 171; refine (signOf_any _ _ HN31.out (HT.out.below HB1.out HT.out.lt) (tabs_kept HTU.out HB1.out)).mono ?_; rintro e w2 ⟨rfl, hb2⟩; have HB2 := hide (HB1.out.trans (hb2.mono HB1.out.size)); clear hb2))
      go_ret2
      exact ⟨by rw [HR.out]; rfl, HB2.out⟩
end Go.Proofs.YtiejmkjpgjbodaaGreatDoor

namespace Go.Proofs.YtiejmkjpgjbodaaGreatDoor
open Go.RowKit
set_option linter.unusedVariables false
set_option linter.unusedSimpArgs false
theorem index_cut (c : UInt8) (l : List UInt8) : (Lib.indexByte l c = -1 ∧ c ∉ l ∧ beforeC c l = l ∧ afterC c l = []) ∨ ∃ o : Nat, Lib.indexByte l c = o ∧ o < l.length ∧ c ∈ l ∧ beforeC c l = l.take o ∧ afterC c l = l.drop (o + 1) := by
  induction l with
  | nil => exact .inl ⟨rfl, by simp, rfl, rfl⟩
  | cons a r ih =>
    by_cases h : a = c
    · subst h
      have := cut_at a (a :: r) 0 (by simp) rfl (fun j hj => absurd hj (by omega))
      exact .inr ⟨0, by simp [Lib.indexByte], by simp, this.1, this.2.1, this.2.2⟩
    · have h1 : (a == c) = false := by simp [h]
      have h2 : (a != c) = true := by simp [h]
      have eb : beforeC c (a :: r) = a :: beforeC c r := by simp [beforeC, List.takeWhile_cons, h2]
      have ea : afterC c (a :: r) = afterC c r := by simp [afterC, List.dropWhile_cons, h2]
      rcases ih with ⟨i1, i2, i3, i4⟩ | ⟨o, i1, i2, i3, i4, i5⟩
      · refine .inl ⟨by simp [Lib.indexByte, h1, i1], ?_, by rw [eb, i3], by rw [ea, i4]⟩
        intro hm
        rcases List.mem_cons.1 hm with e | e
        · exact h e.symm
        · exact i2 e
      · have hne : ((o : Int) == -1) = false := by rw [beq_eq_false_iff_ne]; omega
        refine .inr ⟨o + 1, by simp [Lib.indexByte, h1, i1, hne], by simp; omega, List.mem_cons_of_mem _ i3, by rw [eb, i4]; rfl, by rw [ea, i5]; rfl⟩
def cutV (c : UInt8) (l : List UInt8) : Value := .tuple #[.string (str (beforeC c l)), .string (str (afterC c l)), .bool (hasC c l)]
theorem ret_cut {a b x y : ByteArray} {d e : Bool} (h : a = b) (h' : x = y) (h'' : d = e) : Ending.returned (.tuple #[.string a, .string x, .bool d]) = .returned (.tuple #[.string b, .string y, .bool e]) := by rw [h, h', h'']
set_option maxHeartbeats 1000000 in
theorem cut_any (s : ByteArray) (c : UInt8) (w : World) (hs : s.size ≤ 70368744177664) :
    Calls Tryz.prog 143 #[.string s, .string ⟨#[c]⟩] w fun e w' => e = .returned (cutV c s.data.toList) ∧ Below w.heap.size w w' := by
  have hz : (⟨#[c]⟩ : ByteArray).size = 1 := rfl
  rcases index_cut c s.data.toList with ⟨i1, i2, i3, i4⟩ | ⟨o, i1, i2, i3, i4, i5⟩
  · have I1 := hide i1
    have I2 := hide i2
    have I3 := hide i3
    have I4 := hide i4
    clear i1 i2 i3 i4
    go_enter Tryz.func143, Tryz.ntmps143
    go_wp2_with fail
    refine (Tryz.stringslite_Index_one s c _).mono ?_
    rintro e w1 ⟨rfl, hw⟩
    subst hw
    rw [I1.out]
    go_wp2_with fail
    go_ret3
    exact ⟨ret_cut (by rw [I3.out, str_of]) (by rw [I4.out]; rfl) (by rw [hasC_false I2.out]), Below.refl _ _⟩
  · have I1 := hide i1
    have I3 := hide i3
    have I4 := hide i4
    have I5 := hide i5
    rw [toList_length] at i2
    have o1 : (o : Int) + 1 ≤ s.size := by omega
    have o0 : (0 : Int) ≤ o := by omega
    have o2 : (o : Int) ≤ s.size := by omega
    have o3 : (0 : Int) ≤ (o : Int) + 1 := by omega
    have o4 : ((o : Int) + 1).toNat = o + 1 := by omega
    clear i1 i3 i4 i5
    go_enter Tryz.func143, Tryz.ntmps143
    go_wp2_with fail
    refine (Tryz.stringslite_Index_one s c _).mono ?_
    rintro e w1 ⟨rfl, hw⟩
    subst hw
    rw [I1.out]
    go_wp2_with fail
    go_region
    all_goals (try go_wp2)
    all_goals
      go_ret3
      exact ⟨ret_cut (ext_list (by rw [extract_list, List.drop_zero, str_toList, I4.out])) (ext_list (by rw [extract_end, str_toList, I5.out])) (by rw [hasC_true I3.out]), (Below.refl _ _).drew⟩
set_option maxHeartbeats 1000000 in
theorem strCut_any (s : ByteArray) (c : UInt8) (w : World) (hs : s.size ≤ 70368744177664) :
    Calls Tryz.prog 113 #[.string s, .string ⟨#[c]⟩] w fun e w' => e = .returned (cutV c s.data.toList) ∧ Below w.heap.size w w' := by
  go_enter Tryz.func113, Tryz.ntmps113
  go_wp2_with fail
  refine (cut_any s c _ hs).mono ?_
  rintro e w1 ⟨rfl, hb⟩
  unfold cutV
  go_wp2_with fail
  go_ret3
  exact ⟨rfl, hb⟩
end Go.Proofs.YtiejmkjpgjbodaaGreatDoor

