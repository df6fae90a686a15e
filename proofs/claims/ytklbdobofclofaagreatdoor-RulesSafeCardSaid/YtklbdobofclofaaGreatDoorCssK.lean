/- WALK of css.Clean. No statement is proved here. Own work of the verifier. -/
import Derived.Test.YtklbdobofclofaaGreatDoorCssR
import Derived.Test.YtklbdobofclofaaGreatDoorCssS
namespace Go.Proofs.YtklbdobofclofaaGreatDoor
open Go.RowKit Go.Shelf
set_option linter.unusedVariables false
set_option linter.unusedSimpArgs false
set_option maxRecDepth 100000
attribute [local go_sem] Oper.semAt_some

def namesR (pre : List IdxL) : List ByteArray := (lastR pre).map fun e => str e.1
def showsR (pre : List IdxL) : List ByteArray := (lastR pre).map fun e => str (showD e)
theorem namesR_len (pre : List IdxL) : (namesR pre).length = (lastR pre).length := List.length_map _
theorem showsR_len (pre : List IdxL) : (showsR pre).length = (lastR pre).length := List.length_map _
theorem info_strK : (Tryz.prog.info? 9).map (fun i => (i.zero, i.size, i.bytes)) = some (some (.string ByteArray.empty), 1, 16) := by kernel_rfl
def HeapKept (b B : Nat) (W W' : World) : Prop := ∀ k, k < B → k ≠ b → k ≠ b + 1 → W'.heap[k]? = W.heap[k]?
theorem HeapKept.refl (b B : Nat) (W : World) : HeapKept b B W W := fun _ _ _ _ => rfl
theorem HeapKept.trans {b B : Nat} {U V W : World} (h : HeapKept b B U V) (k : HeapKept b B V W) : HeapKept b B U W := fun j h1 h2 h3 => (k j h1 h2 h3).trans (h j h1 h2 h3)
theorem HeapKept.rows {b B g Bn : Nat} {W W' : World} (h : HeapKept b B W W') (hg : g < B) (hg1 : b + 1 < g) (hb : Bn < B) (hb1 : b + 1 < Bn) : RowKept g Bn W W' := by
  refine ⟨fun o => ?_, ?_⟩
  · unfold World.cell?
    simp only
    rw [h g hg (by omega) (by omega)]
  · unfold World.cell?
    simp only
    rw [h Bn hb (by omega) (by omega)]
theorem DBuf.decls {B : Nat} {A : Option Addr} {c k : Nat} {D : List DeclL} {W0 w : World} (h : DBuf B (.slice A k c) D W0 w) (hl : D ≠ []) : ∃ g, A = some ⟨g, 0, none⟩ ∧ B ≤ g ∧ g < w.heap.size ∧ DeclsAt g D w := by
  obtain ⟨g, cap, e, hg⟩ := h.form hl
  injection e with e1 e2 e3
  subst e1
  refine ⟨g, rfl, hg, (h.1.lt g rfl).2, fun j hj => ?_⟩
  have hx : D[j]? = some D[j] := List.getElem?_eq_getElem hj
  obtain ⟨a1, a2⟩ := declVals_at hx
  have c1 := h.1.cells (g := g) rfl _ _ a1
  have c2 := h.1.cells (g := g) rfl _ _ a2
  rw [Addr.add_lit, Nat.zero_add] at c1 c2
  exact ⟨c1, c2⟩
/-- between two rounds of Clean's loop -/
structure CleanI (b B : Nat) (w W0 : World) (pre : List IdxL) (W : World) : Prop where
  two : ∃ v1 v2, TwoRows b (b + 1) B v1 v2 (namesR pre) (showsR pre) W
  kept : HeapKept b B W0 W
  below : Below b w W
  size : B ≤ W.heap.size
theorem cleanI_own {b B : Nat} {w W0 : World} (hb : b ≤ w.heap.size) (hB : b + 1 < B) : OwnFrom B (CleanI b B w W0) := by
  rintro pre W W' row ⟨⟨v1, v2, h2⟩, hk, hbl, hs⟩ hg hr
  refine ⟨⟨v1, v2, h2.grown hg fun r e => (hr r e).2⟩, hk.trans fun k hk1 _ _ => ?_, ?_, Nat.le_trans hs hg.size⟩
  · refine hg.block k (by omega) (fun e => ?_)
    have := (hr k e.symm).1
    omega
  · exact ownFrom_below (β := Unit) (B := B) hb (by omega) () W W' row hbl hg hr
/-- behind the assignment of a round's variable -/
def CleanA (B : Nat) (mk : Nat → Act) (x : IdxL) (a' : Act) (W : World) : Prop := ∃ Bx, B ≤ Bx ∧ W.heap[Bx]? = some (.cells #[.string (str x.2.1), .string (str x.2.2)] 55 (0, 0)) ∧ a' = mk Bx
theorem cleanA_own (B : Nat) (mk : Nat → Act) (x : IdxL) (a' : Act) : OwnFrom B (fun (_ : Unit) W => CleanA B mk x a' W) := by
  rintro _ W W' row ⟨Bx, h1, h2, h3⟩ hg hr
  refine ⟨Bx, h1, (hg.block Bx (lt_of_block h2) (fun e => ?_)).trans h2, h3⟩
  obtain ⟨_, o, ho, hc⟩ := hr Bx e.symm
  rw [h2] at ho; injection ho with ho; subst ho; cases hc
theorem show_str (a b : List UInt8) : (str a ++ ⟨#[58]⟩ ++ ⟨#[32]⟩ ++ str b : ByteArray) = str (showD (a, b)) := by
  show str a ++ str [58] ++ str [32] ++ str b = _
  rw [← str_append, ← str_append, ← str_append]
  unfold showD
  congr 1
  simp
/-- what lies in a row that has been turned round, joined -/
theorem joinR_any (B : Nat) (v : Value) (l : List ByteArray) (W W5 : World) (h : SRow B v l W) (hz : W5.heap.size = W.heap.size) (hc : ∀ g cap, v = .slice (some ⟨g, 0, none⟩) l.length cap → ∀ (j : Nat) x, l.reverse[j]? = some x → W5.cell? ⟨g, 0 + j, none⟩ = some (.string x)) (L : List DeclL) (hL : l.reverse = L.map fun e => str (showD e)) (hn : (joinD L).length ≤ 140737488355328) (hl : l.length ≤ 1048576) :
    Calls Tryz.prog 80 #[v, .string ⟨#[59, 32]⟩] W5 fun e W' => e = .returned (.string (str (joinD L))) ∧ Below W5.heap.size W5 W' := by
  rcases h.form with ⟨rfl, hnil⟩ | ⟨g, cap, rfl, hcp, _, hlt, _, _⟩
  · subst hnil
    have : L = [] := by simpa using hL.symm
    subst this
    exact (Tryz.strings_Join_none _ _ _ _).mono fun e w' ⟨he, hw⟩ => ⟨he, by rw [hw]; exact Below.refl _ _⟩
  · have hm : (l.reverse).map (·.data.toList) = L.map showD := by
      rw [hL, List.map_map]
      exact List.map_congr_left fun e _ => str_toList _
    have hj : Lib.join ((l.reverse).map (·.data.toList)) (⟨#[59, 32]⟩ : ByteArray).data.toList = joinD L := by rw [hm]; exact join_show L
    have hh := Tryz.strings_Join g 0 cap l.reverse ⟨#[59, 32]⟩ W5 (hc g cap rfl) (by omega) (by rw [List.length_reverse]; omega) (by rw [List.length_reverse]; omega) (by rw [hj]; exact hn)
    rw [hj, List.length_reverse] at hh
    exact hh
set_option maxHeartbeats 4000000 in
theorem clean_in (n : Nat) (hn : 4 ≤ n) (s : ByteArray) (hs : s.size ≤ 1048575) (w : World) (hE : EnvC w) :
    CallsIn Fence.wide n Tryz.prog 55 #[.string s] w fun e W' => e = .returned (.string (str (cleanD s.data.toList))) ∧ Below w.heap.size w W' := by
  have h1 : 1 ≤ n := by omega
  obtain ⟨i0, hi, hz0, hz1, hz2⟩ := info_parts info_strK
  obtain ⟨D, hD⟩ : ∃ D, cutD s.data.toList = D := ⟨_, rfl⟩
  have hw := cutD_weight s.data.toList
  rw [hD, toList_length] at hw
  have hDl : D.length ≤ 1048576 := by have := declW_len D; omega
  unfold cleanD
  rw [hD]
  refine callsIn_of_wp_marks Tryz.func55 rfl trivial ?_ rfl
  simp only [Tryz.ntmps55, List.size_toArray, List.length_cons, List.length_nil, Nat.reduceAdd, Nat.reduceSub, Array.replicate_succ, Array.replicate_zero, List.push_toArray, List.append_toArray, List.nil_append, List.cons_append]
  gi_wp2
  refine ⟨trivial, (callsIn_wide.2 (cssCut_any s _ hs)).mono ?_⟩
  rintro e w3 ⟨v, rfl, hd⟩
  rw [hD] at hd
  obtain ⟨A, c, rfl⟩ := hd.slice_len
  gi_wp2
  refine ⟨trivial, (back_in (n - 1) (by omega) A D.length c _).mono ?_⟩
  rintro e w' ⟨rfl, rfl⟩
  gi_wp2
  have b1 := (Boxed.new w 66 (.slice none 0 0)).alloc (.cells #[.slice none 0 0] 66)
  have b2 := Boxed.new (w.alloc (.cells #[.slice none 0 0] 66)) 66 (.slice none 0 0)
  have hB2 : Below w.heap.size w ((w.alloc (.cells #[.slice none 0 0] 66)).alloc (.cells #[.slice none 0 0] 66)) := ((Below.refl _ w).alloc (Nat.le_refl _) _).alloc (by simp) _
  have hz2 : ((w.alloc (.cells #[.slice none 0 0] 66)).alloc (.cells #[.slice none 0 0] 66)).heap.size = w.heap.size + 2 := by simp
  rw [World.size_alloc] at b2
  obtain ⟨w2, hw2⟩ : ∃ w2, (w.alloc (.cells #[.slice none 0 0] 66)).alloc (.cells #[.slice none 0 0] 66) = w2 := ⟨_, rfl⟩
  rw [hw2] at b1 b2 hB2 hz2 hd
  clear hw2
  have c1 : Boxed w3 w.heap.size 66 (.slice none 0 0) := (hd.below.block _ b1.lt).trans b1
  have c2 : Boxed w3 (w.heap.size + 1) 66 (.slice none 0 0) := (hd.below.block _ b2.lt).trans b2
  have hB3 : Below w.heap.size w w3 := hB2.trans (hd.below.mono (by omega))
  have hz3 : w.heap.size + 2 ≤ w3.heap.size := by have := hd.2.2; omega
  have cB := Boxed.new w3 53 (.slice A D.length c)
  have hd1 := hd.alloc (.cells #[.slice A D.length c] 53)
  obtain ⟨g, hA, hg1, hg2, hDA⟩ : ∃ g, (D ≠ [] → A = some ⟨g, 0, none⟩) ∧ w.heap.size + 1 < g ∧ g < (w3.alloc (.cells #[.slice A D.length c] 53)).heap.size ∧ DeclsAt g D (w3.alloc (.cells #[.slice A D.length c] 53)) := by
    by_cases hl : D = []
    · exact ⟨w3.heap.size, fun h => absurd hl h, by omega, by simp, fun j hj => by rw [hl] at hj; cases hj⟩
    · obtain ⟨g, e, h1, h2, h3⟩ := hd1.decls hl
      exact ⟨g, fun _ => e, by omega, h2, h3⟩
  have d1 := c1.alloc (.cells #[.slice A D.length c] 53)
  have d2 := c2.alloc (.cells #[.slice A D.length c] 53)
  have hB0 : Below w.heap.size w (w3.alloc (.cells #[.slice A D.length c] 53)) := hB3.alloc (by omega) _
  have hz0' : (w3.alloc (.cells #[.slice A D.length c] 53)).heap.size = w3.heap.size + 1 := by simp
  obtain ⟨W0, hW0⟩ : ∃ W0, w3.alloc (.cells #[.slice A D.length c] 53) = W0 := ⟨_, rfl⟩
  rw [hW0] at cB hg2 hDA d1 d2 hB0 hz0' ⊢
  clear hW0 hd hd1 hz2 hB2 b1 b2 c1 c2 hB3
  refine wpIn_rangeFunc_ownH rfl h1 (gf := 96) (lb := #[.pointer (some ⟨w3.heap.size, 0, none⟩)]) rfl trivial (enters_of Tryz.func96 (by kernel_rfl) rfl)
    (back_stops (n - 1) (by omega) w3.heap.size g c A D hDl hA W0 (by omega) hg2 cB.cell hDA) RowKept.trans
    (fun W l o o' hl ho hc _ => HeapKept.rows (b := w.heap.size) (B := W0.heap.size) (fun k hk _ _ => World.putObj_heap_other (by omega)) hg2 hg1 (by omega) (by omega)) (Below.refl _ _) (fun _ => rfl)
    (fun pre W => CleanI w.heap.size W0.heap.size w W0 (pre.map (·.1)) W) (fun _ _ _ => False) (fun pre => cleanI_own (Nat.le_refl _) (by omega) (pre.map (·.1))) (fun _ _ _ _ _ hs _ _ => hs)
    ⟨⟨_, _, d1, d2, SRow.nil _ _, SRow.nil _ _, fun b hb => by cases hb⟩, HeapKept.refl _ _ _, hB0, Nat.le_refl _⟩
    (fun x : BackP D => CleanA W0.heap.size (fun Bx => { tmps := #[.string s, undef, .string ⟨#[]⟩, .pointer (some ⟨w.heap.size, 0, none⟩), .pointer (some ⟨w.heap.size + 1, 0, none⟩), undef, .pointer (some ⟨Bx, 0, none⟩), undef, undef, .string s, .slice A D.length c, .func (.func 96) #[] #[.pointer (some ⟨w3.heap.size, 0, none⟩)], .int .i64 x.1.1, .agg #[.string (str x.1.2.1), .string (str x.1.2.2)], undef, undef, undef, undef, undef, undef, undef, undef, undef, undef, undef, undef, undef, undef, undef, undef, undef, undef, undef, undef, undef, undef, undef, undef, undef, undef, undef, undef, undef], defers := [] }) x.1) (fun x a' => cleanA_own _ _ x.1 a')
    ?assign ?body ?done ?stop
  case assign =>
    rintro l pre x W K hI hK
    gi_wp2
    obtain ⟨⟨v1, v2, h2⟩, hk, hbl, hsz⟩ := hI
    have hkk : HeapKept w.heap.size W0.heap.size W (W.alloc (.cells #[.string (str x.1.2.1), .string (str x.1.2.2)] 55)) := fun k hk _ _ => Below.heap_alloc W _ k (by omega)
    refine hK _ _ ((KeepsOthers.alloc _ _).from _) (hkk.rows hg2 hg1 (by omega) (by omega)) ⟨⟨v1, v2, ?_⟩, hk.trans hkk, hbl.alloc hbl.size _, ?_⟩ ⟨W.heap.size, hsz, World.alloc_heap_new W _, rfl⟩
    · exact h2.grown (World.grownBy_alloc W _ none) (fun r e => by cases e)
    · simp; omega
  case body =>
    rintro l pre ⟨⟨ix, nm, vl⟩, hmem⟩ a' W hl ⟨r, hr⟩ hI ⟨Bx, hBx, bX, rfl⟩ hlt
    obtain ⟨⟨v1, v2, h2⟩, hk, hbl, hsz⟩ := hI
    have hmw := declW_mem hmem
    dsimp only at hmw bX ⊢
    have hpl : (pre.map (·.1)).length = pre.length := List.length_map ..
    have hR : List.map (·.1) (pre ++ [⟨(ix, nm, vl), hmem⟩]) = pre.map (·.1) ++ [(ix, nm, vl)] := by simp
    obtain ⟨Q, hQ⟩ : ∃ Q, pre.map (·.1) = Q := ⟨_, rfl⟩
    rw [hQ] at h2 hpl hR
    have HR := hide hR
    have hLL := lastR_len Q
    have hLn := namesR_len Q
    have hLs := showsR_len Q
    have HLn := hide hLn
    have HLs := hide hLs
    clear hR hQ hLn hLs
    have e0 : W.cell? ⟨Bx, 0, none⟩ = some (.string (str nm)) := by simp [World.cell?, bX]
    have e1 : W.cell? ⟨Bx, 1, none⟩ = some (.string (str vl)) := by simp [World.cell?, bX]
    have h1' : 1 ≤ n - 1 - 1 := by omega
    gi_wp2
    rename_i QQ KK aa
    have key : KK { tmps := #[.string s, undef, .string ⟨#[]⟩, .pointer (some ⟨w.heap.size, 0, none⟩), .pointer (some ⟨w.heap.size + 1, 0, none⟩), undef, .pointer (some ⟨Bx, 0, none⟩), .string (str nm), .string (str vl), .string s, .slice A D.length c, .func (.func 96) #[] #[.pointer (some ⟨w3.heap.size, 0, none⟩)], .int .i64 ix, .agg #[.string (str nm), .string (str vl)], .pointer (some ⟨Bx, 0, none⟩), .string (str nm), .pointer (some ⟨Bx, 1, none⟩), .string (str vl), undef, undef, undef, undef, undef, undef, undef, undef, undef, undef, undef, undef, undef, undef, undef, undef, undef, undef, undef, undef, undef, undef, undef, undef, undef], defers := [] } W.drew := by
      refine aa _ _ ?_
      clear aa
      have f2 : TwoRows w.heap.size (w.heap.size + 1) W0.heap.size v1 v2 (namesR Q) (showsR Q) W.drew := ⟨h2.x1, h2.x2, h2.r1, h2.r2, h2.ap⟩
      have fk : HeapKept w.heap.size W0.heap.size W0 W.drew := hk
      have fbl : Below w.heap.size w W.drew := hbl.drew
      have fsz : W0.heap.size ≤ W.drew.heap.size := hsz
      have fK : KeepsOthers W W.drew := ⟨Nat.le_refl _, fun k o hk ho => hk⟩
      have fKp : HeapKept w.heap.size W0.heap.size W W.drew := HeapKept.refl _ _ _
      obtain ⟨W1, hW1⟩ : ∃ W1, W.drew = W1 := ⟨_, rfl⟩
      rw [hW1] at f2 fk fbl fsz fK fKp ⊢
      clear hW1 e0 e1 bX h2 hk hbl hsz
      have hE1 : EnvC W1 := hE.kept fbl
      have hvz : (str vl).size ≤ maxLen := by unfold maxLen; rw [str_size]; omega
      have hx1 := f2.x1.cell
      cases hsf : safeD (nm, vl) with
      | false =>
        have HS : Hid (safeD ((str nm).data.toList, (str vl).data.toList) = false) := hide (by rw [str_toList, str_toList]; exact hsf)
        have hl2 := lastR_no1 (pre := Q) (x := (ix, nm, vl)) hsf
        clear hsf
        gi_wp2
        refine ⟨trivial, CallsIn.inRound l ((callsIn_wide.2 (cssSafe_any (str nm) (str vl) _ hE1 hvz)).mono ?_)⟩
        rintro e w' ⟨rfl, rfl⟩
        rw [HS.out]
        gi_wp2
        refine ⟨trivial, ?_⟩
        gi_wp2
        refine ⟨fK.from _, fKp.rows hg2 hg1 (by omega) (by omega), ?_⟩
        show CleanI _ _ _ _ (List.map (fun x : BackP D => x.1) _) _
        rw [HR.out]
        refine ⟨⟨v1, v2, ?_⟩, fk, fbl, fsz⟩
        unfold namesR showsR
        rw [hl2]
        exact f2
      | true =>
        have HS : Hid (safeD ((str nm).data.toList, (str vl).data.toList) = true) := hide (by rw [str_toList, str_toList]; exact hsf)
        have HSF := hide hsf
        clear hsf
        obtain ⟨A1, cA1, rfl⟩ := f2.r1.slice_len
        gi_wp2
        refine ⟨trivial, CallsIn.inRound l ((callsIn_wide.2 (cssSafe_any (str nm) (str vl) _ hE1 hvz)).mono ?_)⟩
        rintro e w' ⟨rfl, rfl⟩
        rw [HS.out]
        gi_wp2
        refine ⟨trivial, CallsIn.inRound l ((callsIn_wide.2 (contains_any W0.heap.size _ (lastR Q) nm _ f2.r1 (by omega))).mono ?_)⟩
        rintro e w' ⟨rfl, rfl⟩
        cases hhn : hasN (lastR Q) nm with
        | true =>
          have hl2 := lastR_no2 (pre := Q) (x := (ix, nm, vl)) hhn
          clear hhn
          gi_wp2
          refine ⟨fK.from _, fKp.rows hg2 hg1 (by omega) (by omega), ?_⟩
          show CleanI _ _ _ _ (List.map (fun x : BackP D => x.1) _) _
          rw [HR.out]
          refine ⟨?_, fk, fbl, fsz⟩
          unfold namesR showsR
          rw [hl2]
          exact ⟨_, v2, f2⟩
        | false =>
          have hl2 := lastR_yes (pre := Q) (x := (ix, nm, vl)) HSF.out hhn
          clear hhn
          have hr1 : W1.ownsRow W0.heap.size 9 1 _ (namesR Q).length (strVals (namesR Q)) := f2.r1
          have hnl : (namesR Q).length + 1 ≤ 1048577 := by rw [HLn.out]; omega
          have hnl2 : (showsR Q).length + 1 ≤ 1048577 := by rw [HLs.out]; omega
          have HM1 : Hid ((namesR Q).length + 1 ≤ maxLen ∧ ((namesR Q).length + 1) * 16 ≤ 140737488355328) := hide (by unfold maxLen; omega)
          have HM2 : Hid ((showsR Q).length + 1 ≤ maxLen ∧ ((showsR Q).length + 1) * 16 ≤ 140737488355328) := hide (by unfold maxLen; omega)
          have HZ1 : Hid (W0.heap.size ≤ (W1.alloc (.cells #[.string (str nm)] 9)).heap.size) := hide (by rw [World.size_alloc]; omega)
          obtain ⟨A2, cA2, rfl⟩ := f2.r2.slice_len
          have hbw : w.heap.size + 1 < W0.heap.size := by omega
          have z1 : (str nm).size ≤ 1048576 := by rw [str_size]; omega
          have z2 : (str vl).size ≤ 1048576 := by rw [str_size]; omega
          gi_wp2_with (gi_at_builtin; first
            | (refine wpListIn_append_own_at _ rfl _ _ 66 rfl W0.heap.size 9 i0 (.string ByteArray.empty) 1 16 Tryz.underlying66 hi hz0 hz1 hz2 rfl (by decide) _ _ _ rfl (hr1.alloc _) ⟨W1.heap.size, 0, none⟩ 1 1 [.string (str nm)] rfl rfl (cell_one_new _ _ _) (by simp [Value.oneCell']) HM1.out.1 HM1.out.2 HZ1.out ?_
               intro v' w5 hown' hgrow _ hat
               obtain ⟨g', cap', rfl⟩ := ownsRow_succ hown'
               obtain ⟨q1, q2, q3, q4, q5, q6, q7⟩ := f2.app (b1 := w.heap.size) (b2 := w.heap.size + 1) (by omega) (by omega) (by omega) fsz hown' hgrow hat
               have hc1 := q1.cell
               have hf1 := q1.frozen
               have hc2 := q2.cell
               have hr2 : (w5.setCell ⟨w.heap.size, 0, none⟩ (.slice (some ⟨g', 0, none⟩) ((namesR Q).length + 1) cap')).ownsRow W0.heap.size 9 1 _ (showsR Q).length (strVals (showsR Q)) := q3.r2
               have hz6 : W0.heap.size ≤ (w5.setCell ⟨w.heap.size, 0, none⟩ (.slice (some ⟨g', 0, none⟩) ((namesR Q).length + 1) cap')).heap.size := by omega
               have e5 : (w5.setCell ⟨w.heap.size, 0, none⟩ (.slice (some ⟨g', 0, none⟩) ((namesR Q).length + 1) cap')).heap.size = w5.heap.size := World.size_setCell ..
               have hz7 : W0.heap.size ≤ w5.heap.size := by rw [← e5]; exact hz6
               have h9 := cell_one_new (w5.setCell ⟨w.heap.size, 0, none⟩ (.slice (some ⟨g', 0, none⟩) ((namesR Q).length + 1) cap')) (.string (str nm ++ ⟨#[58]⟩ ++ ⟨#[32]⟩ ++ str vl)) 9
               rw [e5] at h9
               have H9 := hide h9
               have HR2 := hide hr2
               have HQ3 := hide q3
               have HQ4 := hide q4
               have HQ5 := hide q5
               have HZ6 := hide hz6
               have HQ7 := hide q7
               have HZ2 : Hid (W0.heap.size ≤ ((w5.setCell ⟨w.heap.size, 0, none⟩ (.slice (some ⟨g', 0, none⟩) ((namesR Q).length + 1) cap')).alloc (.cells #[.string (str nm ++ ⟨#[58]⟩ ++ ⟨#[32]⟩ ++ str vl)] 9)).heap.size) := hide (by rw [World.size_alloc]; omega)
               clear h9 hr2 q3 q4 q5 q6 q7 hat hgrow hown' q1 q2 e5 hz6 hz7)
            | (refine wpListIn_append_own_at _ rfl _ _ 66 rfl W0.heap.size 9 i0 (.string ByteArray.empty) 1 16 Tryz.underlying66 hi hz0 hz1 hz2 rfl (by decide) _ _ _ rfl (HR2.out.alloc _) ⟨w5.heap.size, 0, none⟩ 1 1 [.string (str nm ++ ⟨#[58]⟩ ++ ⟨#[32]⟩ ++ str vl)] rfl rfl H9.out (by simp [Value.oneCell']) HM2.out.1 HM2.out.2 HZ2.out ?_
               intro v'' w6 hown'' hgrow'' _ hat''
               obtain ⟨g'', cap'', rfl⟩ := ownsRow_succ hown''
               obtain ⟨p1, p2, p3, p4, p5, p6, p7⟩ := HQ3.out.symm.app (b1 := w.heap.size + 1) (b2 := w.heap.size) (by omega) (by omega) (by omega) HZ6.out hown'' hgrow'' hat''
               have hc3 := p1.cell
               have hf3 := p1.frozen))
          have hX : (str nm ++ ⟨#[58]⟩ ++ ⟨#[32]⟩ ++ str vl : ByteArray) = str (showD (nm, vl)) := show_str nm vl
          rw [hX] at p3
          have hkk : HeapKept w.heap.size W0.heap.size W1 _ := (show HeapKept w.heap.size W0.heap.size W1 _ from fun k h1 h2 _ => HQ5.out k h1 h2).trans (fun k h1 _ h3 => p5 k h1 h3)
          refine ⟨((fK.trans HQ4.out).trans p4).from _, (fKp.trans hkk).rows hg2 hg1 (by omega) (by omega), ?_⟩
          show CleanI _ _ _ _ (List.map (fun x : BackP D => x.1) _) _
          rw [HR.out]
          refine ⟨?_, fk.trans hkk, (fbl.trans (HQ7.out _ (Nat.le_refl _) (by omega))).trans (p7 _ (by omega) (by omega)), Nat.le_trans HZ6.out p6⟩
          unfold namesR showsR
          rw [hl2, List.map_append, List.map_append]
          exact ⟨_, _, p3.symm⟩
    gi_region <;> exact key
  case done =>
    rintro Dm ys W hDm hys hI hK
    have hI' : CleanI w.heap.size W0.heap.size w W0 (backN D D.length) W := by rw [← hys]; exact hI
    obtain ⟨⟨v1, v2, h2⟩, hk, hbl, hsz⟩ := hI'
    have hsh : (showsR (backN D D.length)).reverse = (lastD D).map fun e => str (showD e) := by
      unfold showsR
      rw [lastR_back, ← List.map_reverse, List.reverse_reverse]
    have hsl : (showsR (backN D D.length)).length ≤ 1048576 := by
      have h8 := congrArg List.length hsh
      rw [List.length_reverse, List.length_map] at h8
      have := (lastD_sub D).length_le
      omega
    have hjl : (joinD (lastD D)).length ≤ 140737488355328 := by
      have h8 := joinD_len (lastD D)
      have h9 := declW_sub (lastD_sub D)
      omega
    obtain ⟨R, hR⟩ : ∃ R, showsR (backN D D.length) = R := ⟨_, rfl⟩
    rw [hR] at h2 hsh hsl
    have HSH := hide hsh
    have HJL := hide hjl
    have hKlt := (Array.getElem?_eq_some_iff.1 hK).1
    have hne : v2.ownBlock ≠ some Dm := fun e => by
      obtain ⟨cur, fr, h8⟩ := h2.r2.block e
      rw [hK] at h8; cases h8
    have hne1 : v2.ownBlock ≠ some (w.heap.size + 1) := fun e => by have := (h2.r2.lt _ e).1; omega
    obtain ⟨A2, cA2, rfl⟩ := h2.r2.slice_len
    have hc := h2.x2.cell
    clear hsh hjl hR hI hys
    gi_wp2
    refine ⟨trivial, (callsIn_wide.2 (reverse_any W0.heap.size w.heap.size _ R w W h2.r2 hsl hbl (by omega))).mono ?_⟩
    rintro e W5 ⟨rfl, r1, r2, r3, r4⟩
    have hx5 : Boxed W5 (w.heap.size + 1) 66 (.slice A2 R.length cA2) := (r3 _ hne1 h2.x2.lt).trans h2.x2
    have hK5 : W5.heap[Dm]? = some (.deferred (some [])) := (r3 Dm hne hKlt).trans hK
    have hc5 := hx5.cell
    gi_wp2
    refine ⟨trivial, (callsIn_wide.2 (joinR_any W0.heap.size _ R W W5 h2.r2 r2 r4 (lastD D) HSH.out HJL.out hsl)).mono ?_⟩
    rintro e W6 ⟨rfl, hb6⟩
    have hK6 : W6.heap[Dm]? = some (.deferred (some [])) := (hb6.block Dm (by omega)).trans hK5
    gi_wp2
    refine ⟨by simp, .inl ⟨_, _, rfl, run_takeDeferred hK6, ?_⟩⟩
    exact ⟨_, results_tmp rfl _ _ _, rfl, (r1.trans (hb6.mono r1.size)).trans (belowK_b (w := w) (Nat.le_refl _) W6 Dm _ _ (by omega) hK6 rfl rfl)⟩
  case stop =>
    rintro Dm cc pre W _ _ h _
    exact h.elim
theorem cssClean_any (s : ByteArray) (hs : s.size ≤ 1048575) (w : World) (hE : EnvC w) :
    Calls Tryz.prog 55 #[.string s] w fun e W' => e = .returned (.string (str (cleanD s.data.toList))) ∧ Below w.heap.size w W' :=
  (callsIn_wide (n := 4)).1 (clean_in 4 (by omega) s hs w hE)
end Go.Proofs.YtklbdobofclofaaGreatDoor
