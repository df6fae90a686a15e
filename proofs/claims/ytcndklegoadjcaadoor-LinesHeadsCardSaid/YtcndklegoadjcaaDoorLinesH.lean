/- WALK of lines.Head. No statement is proved here. -/
import Derived.Test.YtcndklegoadjcaaDoorEach
import Derived.Test.YtcndklegoadjcaaDoorLinesJ
import Derived.Maps.AppendAt
namespace Go.Proofs.YtcndklegoadjcaaDoor
open Go.RowKit Go.Shelf
set_option linter.unusedVariables false
set_option linter.unusedSimpArgs false
set_option maxRecDepth 100000
attribute [local go_sem] Oper.semAt_some

/-- the gathered fields, each value put together -/
def outR (acc : List RawL) : List FieldL := acc.map fun r => (r.1, trimT r.2.flatten)
theorem outR_of (ls : List RawV) : outL ls = outR (ls.map (·.1)) := by unfold outL outR; rw [List.map_map]; rfl
theorem RRow.formG {B : Nat} {v : Value} {ls : List RawV} {w : World} (h : RRow B v ls w) (hl : ls ≠ []) : ∃ g cap, v = .slice (some ⟨g, 0, none⟩) ls.length cap ∧ B ≤ g ∧ ls.length ≤ cap := by
  rcases h.row.2 with ⟨rfl, h0⟩ | ⟨g, cap, cur, rfl, hg, _, hc, _⟩
  · exact absurd (List.eq_nil_of_length_eq_zero h0) hl
  · exact ⟨g, cap, rfl, hg, hc⟩
theorem ws_index (c : UInt8) : decide (0 ≤ Lib.indexByte (⟨#[32, 9]⟩ : ByteArray).data.toList ((c.toNat : Int).toNat.toUInt8)) = wsT c := by
  have e : ((c.toNat : Int).toNat.toUInt8) = c := by simp
  rw [e, hasC_index]
  by_cases h : c = 32
  · subst h; decide
  · by_cases h2 : c = 9
    · subst h2; decide
    · have : c ∉ (⟨#[32, 9]⟩ : ByteArray).data.toList := by
        intro hm
        have hm' : c ∈ [(32 : UInt8), 9] := hm
        simp at hm'
        rcases hm' with e | e
        · exact h e
        · exact h2 e
      rw [hasC_false this]
      unfold wsT
      rw [beq_eq_false_iff_ne.2 h, beq_eq_false_iff_ne.2 h2]; rfl
theorem keeps_below {W W' : World} (hb : Below W.heap.size W W') : KeepsOthers W W' := ⟨hb.size, fun k o hk ho => (hb.block k (Array.getElem?_eq_some_iff.1 hk).1).trans hk⟩
/-- what a row's append leaves as it lay -/
theorem row_grown {B : Nat} {e : TypeId} {sz n : Nat} {u : Value} {xs : List Value} {W w1 : World} {tmp : Obj} (h : W.ownsRow B e sz u n xs) (hg : (W.alloc tmp).grownBy w1 u.ownBlock) :
    KeepsOthers W w1 ∧ (∀ b t x, b < B → Boxed W b t x → Boxed w1 b t x) ∧ (∀ b, b ≤ B → b ≤ W.heap.size → Below b W w1) := by
  refine ⟨(KeepsOthers.alloc W tmp).trans (KeepsOthers.of_grownBy hg fun j o ej hj => ?_), fun b t x hb hx => (hx.alloc tmp).kept hg fun e => ?_, fun b hb hw => ?_⟩
  · rcases (h.alloc tmp).2 with ⟨rfl, _⟩ | ⟨g, cap, cur, rfl, _, hgb, _⟩
    · simp [Value.ownBlock] at ej
    · obtain rfl : g = j := by simpa [Value.ownBlock] using ej
      rw [hgb] at hj; cases hj; rfl
  · have := (h.lt b e.symm).1; omega
  · exact ((Below.refl b W).alloc hw tmp).grown hg (by simp; omega) fun j ej => Nat.le_trans hb (h.lt j ej).1
/-- the last field's lines have been appended to: its place, as it lies behind that -/
theorem RRow.grown {B g cap k : Nat} {u : Value} {r : List RawV} {f : RawL} {W w1 : World} {tmp : Obj} (h : RRow B (.slice (some ⟨g, 0, none⟩) k cap) (r ++ [(f, u)]) W) (hg : (W.alloc tmp).grownBy w1 u.ownBlock) :
    w1.cell? ⟨g, r.length * 2 + 1, none⟩ = some u ∧ w1.frozen? ⟨g, r.length * 2 + 1, none⟩ = false ∧ B ≤ g := by
  have hu : (r ++ [(f, u)])[r.length]? = some (f, u) := by simp
  have hk : k = (r ++ [(f, u)]).length := by
    rcases h.row.2 with ⟨h0, _⟩ | ⟨g', cap', cur, hv, _⟩
    · cases h0
    · injection hv with _ e _
  subst hk
  have hrow := (h.row.alloc tmp).kept hg (ownsRow_two (by decide) (h.row.alloc tmp) ((h.each _ _ hu).1.alloc tmp))
  have hc := hrow.cells (g := g) rfl _ _ (rawVals_at hu).2
  rw [Addr.add_lit, Nat.zero_add] at hc
  exact ⟨hc, ownsRow_free hrow _, (h.row.lt g rfl).1⟩
/-- the lines that have come, by what they are -/
abbrev lns (pre : List LineP) : List FieldL := pre.map (·.1)
/-- between two rounds of Head's loop: b: the block of the first result -/
def HeadI (b : Nat) (w : World) (pre : List LineP) (W : World) : Prop :=
  (∃ v ls, Boxed W (b + 1 + 1) 42 v ∧ RRow (b + 1 + 1 + 1 + 1) v ls W ∧ ls.map (·.1) = (foldR ([], false) (lns pre)).1) ∧ Boxed W (b + 1 + 1 + 1) 4 (.bool (foldR ([], false) (lns pre)).2) ∧
  Boxed W b 24 (.slice none 0 0) ∧ Boxed W (b + 1) 9 (.string ⟨#[]⟩) ∧ (∀ p ∈ lns pre, p.1 ≠ []) ∧ Below b w W
/-- left by a return -/
def HeadX (b : Nat) (w : World) (c : Code) (pre : List LineP) (W : World) : Prop :=
  c = .ret ∧ ∃ q t, lns pre = q ++ [([], t)] ∧ (∀ p ∈ q, p.1 ≠ []) ∧ ∃ v, Boxed W b 24 v ∧ FBuf b v (outR (foldR ([], false) q).1) w W ∧ Boxed W (b + 1) 9 (.string (str t))
theorem not_cells {W : World} {r : Nat} {o : Obj} (ho : W.heap[r]? = some o) (hc : o.isCells = false) (cur : Array Value) (e : TypeId) (fr : Nat × Nat) : W.heap[r]? ≠ some (.cells cur e fr) := by
  rw [ho]; intro h; injection h with h; subst h; cases hc
theorem headI_own (b : Nat) (w : World) (B : Nat) (hb : b ≤ w.heap.size) (hB : b ≤ B) : OwnFrom B (HeadI b w) := by
  rintro pre W W' row ⟨⟨v, ls, h1, h2, h3⟩, h4, h5, h6, h7, h8⟩ hg hr
  have hne : ∀ {k : Nat} {t : TypeId} {u : Value}, Boxed W k t u → some k ≠ row := by
    intro k t u hk e
    obtain ⟨_, o, ho, hc⟩ := hr k e.symm
    exact not_cells ho hc _ _ _ hk
  refine ⟨⟨v, ls, h1.kept hg (hne h1), h2.turned hg (fun r e cur => ?_), h3⟩, h4.kept hg (hne h4), h5.kept hg (hne h5), h6.kept hg (hne h6), h7, ?_⟩
  · obtain ⟨_, o, ho, hc⟩ := hr r e
    exact ⟨not_cells ho hc _ _ _, not_cells ho hc _ _ _⟩
  · exact ownFrom_below (β := Unit) (B := B) hb hB () W W' row h8 hg hr
theorem headX_own (b : Nat) (w : World) (B : Nat) (hb : b ≤ w.heap.size) (hB : b ≤ B) (c : Code) : OwnFrom B (HeadX b w c) := by
  rintro pre W W' row ⟨h0, q, t, h1, h2, v, h3, h4, h5⟩ hg hr
  have hne : ∀ {k : Nat} {t : TypeId} {u : Value}, Boxed W k t u → some k ≠ row := by
    intro k t u hk e
    obtain ⟨_, o, ho, hc⟩ := hr k e.symm
    exact not_cells ho hc _ _ _ hk
  refine ⟨h0, q, t, h1, h2, v, h3.kept hg (hne h3), ⟨h4.1.kept hg ?_, ownFrom_below (β := Unit) (B := B) hb hB () W W' row h4.2.1 hg hr, Nat.le_trans h4.2.2 hg.size⟩, h5.kept hg (hne h5)⟩
  cases row with
  | none => cases hv : v.ownBlock <;> simp
  | some r =>
    obtain ⟨_, o, ho, hc⟩ := hr r rfl
    exact .inr (ownsRow_ne h4.1 fun cur => not_cells ho hc _ _ _)
theorem FBuf.toBox {B B0 b : Nat} {v x : Value} {l : List FieldL} {W0 w0 w : World} {t : TypeId} {u : Value} (h : FBuf B v l W0 w) (hb : Boxed w b t u) (ht : t ≠ 40) (h0 : B0 ≤ B) (hB : Below B0 w0 w) (hb0 : B0 ≤ b) : FBuf B0 v l w0 (w.setCell ⟨b, 0, none⟩ x) := by
  refine ⟨ownsRow_setCell_other (ownsRow_base h.1 h0) (ownsRow_ne h.1 fun cur e => ?_) x, hB.setCell hb0 _, ?_⟩
  · rw [show w.heap[b]? = _ from hb] at e
    injection e with e; injection e with _ e; exact ht e
  · have := h.2.2
    show B0 ≤ (w.setCell _ _).heap.size
    simp [World.setCell]; omega
theorem lns_sum (pre : List LineP) : lsum (lns pre) ≤ pre.length * 1048576 := by
  induction pre with
  | nil => simp [lns, lsum]
  | cons p r ih =>
    have h1 : lsum (lns (p :: r)) = p.1.1.length + lsum (lns r) := by simp [lns, lsum]
    have h2 := p.2
    rw [h1, List.length_cons]; omega
theorem lns_gather (pre : List LineP) : GatherOk (foldR ([], false) (lns pre)) pre.length (pre.length * 1048576) := by
  have h := gather_fold (lns pre) _ _ _ gather_start
  have h2 := lns_sum pre
  have h3 : (lns pre).length = pre.length := List.length_map _
  exact ⟨h.opened, by have := h.few; omega, fun r hr => by have := h.lines r hr; omega, fun r hr => by have := h.names r hr; omega, fun r hr => by have := h.sizes r hr; omega⟩
theorem raw_bounds {pre : List LineP} {ls : List RawV} (h : ls.map (·.1) = (foldR ([], false) (lns pre)).1) (hn : pre.length ≤ 1048576) :
    ls.length ≤ 1048576 ∧ ∀ p ∈ ls, p.1.2.flatten.length ≤ 70368744177664 ∧ p.1.2.length ≤ 70368744177664 := by
  have g := lns_gather pre
  have hl : ls.length = (foldR ([], false) (lns pre)).1.length := by rw [← h, List.length_map]
  refine ⟨by have := g.few; omega, fun p hp => ?_⟩
  have hm : p.1 ∈ (foldR ([], false) (lns pre)).1 := by rw [← h]; exact List.mem_map_of_mem hp
  have h1 := g.lines _ hm
  have h2 := g.sizes _ hm
  rw [flat_length]
  omega
set_option maxHeartbeats 4000000 in
theorem head_in (n : Nat) (hn : 4 ≤ n) (s : ByteArray) (hs : s.size ≤ 1048576) (w : World) :
    CallsIn Fence.wide n Tryd.prog 11 #[.string s] w fun e W' => ∃ v, e = .returned (.tuple #[v, .string (str (headL s.data.toList).2)]) ∧ FBuf w.heap.size v (headL s.data.toList).1 w W' := by
  have h1 : 1 ≤ n := by omega
  obtain ⟨i0', hi', hz0', hz1', hz2'⟩ := info_parts info_str
  obtain ⟨ir, hir, hr0, hr1, hr2⟩ := info_parts info_raw
  refine callsIn_of_wp_marks Tryd.func11 rfl trivial ?_ rfl
  simp only [Tryd.ntmps11, List.size_toArray, List.length_cons, List.length_nil, Nat.reduceAdd, Nat.reduceSub, Array.replicate_succ, Array.replicate_zero, List.push_toArray, List.append_toArray, List.nil_append, List.cons_append]
  gi_wp2
  refine ⟨trivial, (each_in (n - 1) (by omega) s _).mono ?_⟩
  rintro e w' ⟨rfl, rfl⟩
  gi_wp2
  have bR := Boxed.new w 24 (.slice none 0 0)
  have bT := Boxed.new (w.alloc (.cells #[.slice none 0 0] 24)) 9 (.string ⟨#[]⟩)
  have bF := Boxed.new ((w.alloc (.cells #[.slice none 0 0] 24)).alloc (.cells #[.string ⟨#[]⟩] 9)) 42 (.slice none 0 0)
  have bO := Boxed.new (((w.alloc (.cells #[.slice none 0 0] 24)).alloc (.cells #[.string ⟨#[]⟩] 9)).alloc (.cells #[.slice none 0 0] 42)) 4 (.bool false)
  have bS := Boxed.new ((((w.alloc (.cells #[.slice none 0 0] 24)).alloc (.cells #[.string ⟨#[]⟩] 9)).alloc (.cells #[.slice none 0 0] 42)).alloc (.cells #[.bool false] 4)) 9 (.string s)
  have hB0 : Below w.heap.size w (((((w.alloc (.cells #[.slice none 0 0] 24)).alloc (.cells #[.string ⟨#[]⟩] 9)).alloc (.cells #[.slice none 0 0] 42)).alloc (.cells #[.bool false] 4)).alloc (.cells #[.string s] 9)) :=
    (((((Below.refl _ w).alloc (Nat.le_refl _) _).alloc (by simp) _).alloc (by simp; omega) _).alloc (by simp; omega) _).alloc (by simp; omega) _
  simp only [World.size_alloc] at bT bF bO bS
  refine wpIn_rangeFunc_ownG rfl h1 (gf := 37) (lb := #[.pointer (some ⟨w.heap.size + 1 + 1 + 1 + 1, 0, none⟩)]) rfl trivial (enters_of Tryd.func37 (by kernel_rfl) rfl)
    (each_stopsP (n - 1) (by omega) (w.heap.size + 1 + 1 + 1 + 1) s hs _ (by simp) bS.cell) walksK_t (fun W l o o' _ h _ hw => KeepsWalks.putObj _ h hw) (Below.refl _ _) (fun _ => rfl)
    (HeadI w.heap.size w) (HeadX w.heap.size w) (headI_own _ _ _ (Nat.le_refl _) (by simp; omega)) (headX_own _ _ _ (Nat.le_refl _) (by simp; omega))
    ⟨⟨_, [], (bF.alloc _).alloc _, RRow.nil _ _, rfl⟩, bO.alloc _, (((bR.alloc _).alloc _).alloc _).alloc _, ((bT.alloc _).alloc _).alloc _, (fun p hp => (by cases hp)), hB0⟩
    (fun x => { tmps := #[.string s, undef, .pointer (some ⟨w.heap.size, 0, none⟩), .pointer (some ⟨w.heap.size + 1, 0, none⟩), .pointer (some ⟨w.heap.size + 1 + 1, 0, none⟩), .pointer (some ⟨w.heap.size + 1 + 1 + 1, 0, none⟩), .string (str x.1.1), .string (str x.1.2), undef, undef, undef, undef, .string s, .func (.func 37) #[] #[.pointer (some ⟨w.heap.size + 1 + 1 + 1 + 1, 0, none⟩)], .string (str x.1.1), .string (str x.1.2), undef, undef, undef, undef, undef, undef, undef, undef, undef, undef, undef, undef, undef, undef, undef, undef, undef, undef, undef, undef, undef, undef, undef, undef, undef, undef, undef, undef, undef, undef, undef, undef, undef, undef, undef, undef, undef, undef, undef, undef, undef, undef, undef, undef, undef, undef, undef, undef, undef], defers := [] }) ?assign ?body ?done ?stop
  case assign =>
    intro l x W K hK
    gi_wp2
    exact hK
  case body =>
    rintro l pre x W ⟨⟨v, ls, hF, hR, hL⟩, hO, hRs, hT, hne, hB⟩ hlt
    obtain ⟨LN, hLN⟩ : ∃ LN, LN = str x.1.1 := ⟨_, rfl⟩
    obtain ⟨AF, hAF⟩ : ∃ AF, AF = str x.1.2 := ⟨_, rfl⟩
    rw [← hLN, ← hAF]
    have HLN := hide hLN
    have HAF := hide hAF
    have HL := hide hL
    have HNE := hide hne
    have HB := hide hB
    have HRB := hide (raw_bounds hL (by omega))
    have hnn : 1 ≤ n - 1 - 1 := by omega
    clear bR bT bF bO bS hB0 hLN hAF hL hne hB
    by_cases hx0 : x.1.1 = []
    · have t0 : LN.toList.isEmpty = true := emptyE (by rw [HLN.out, str_toList]; exact hx0)
      have HX0 := hide hx0
      have hc := hF.cell
      clear hx0
      gi_wp2
      refine ⟨trivial, CallsIn.inRound l ((callsIn_wide.2 (joined_any _ v ls W hR HRB.out.1 HRB.out.2)).mono ?_)⟩
      rintro e w2 ⟨v2, rfl, hf2⟩
      obtain ⟨A, c, rfl⟩ := hf2.slice_len
      have hk2 := keeps_below hf2.below
      have hR2 : Boxed w2 w.heap.size 24 (.slice none 0 0) := Box.below hRs hf2.below hRs.lt
      have hT2 : Boxed w2 (w.heap.size + 1) 9 (.string ⟨#[]⟩) := Box.below hT hf2.below hT.lt
      have hc2 := hR2.cell
      have hf3 := hR2.frozen
      have hc4 := hT2.cell
      have hf4 := hT2.frozen
      gi_wp2
      have f1 := hf2.toBox (x := .slice A (outL ls).length c) hR2 (by decide) HB.out.size (HB.out.trans (hf2.below.mono HB.out.size)) (Nat.le_refl _)
      have hT3 : Boxed (w2.setCell ⟨w.heap.size, 0, none⟩ (.slice A (outL ls).length c)) (w.heap.size + 1) 9 (.string ⟨#[]⟩) := hT2.other (by omega) _
      have f2 := f1.toBox (x := .string AF) hT3 (by decide) (Nat.le_refl _) f1.below (by omega)
      refine ⟨((hk2.trans (KeepsOthers.setCell _ _ _)).trans (KeepsOthers.setCell _ _ _)).from _, rfl, lns pre, x.1.2, ?_, HNE.out, _, (hR2.set _).other (by omega) _, ?_, ?_⟩
      · unfold lns
        rw [List.map_append]
        refine congrArg (lns pre ++ ·) ?_
        show [x.1] = [([], x.1.2)]
        rw [← HX0.out]
      · rw [← HL.out, ← outR_of]; exact f2
      · rw [← HAF.out]; exact hT3.set _
    have t0 : LN.toList.isEmpty = false := emptyN (by rw [HLN.out, str_toList]; exact hx0)
    have hsz : 0 < LN.size := by
      rw [HLN.out, str_size]; exact List.length_pos_iff.2 hx0
    have hx00 : x.1.1.getD 0 0 = LN[0] := by
      have e : LN.data.toList = x.1.1 := by rw [HLN.out, str_toList]
      have e2 : LN.data.toList = LN[0] :: LN.data.toList.drop 1 := by have := drop_cons LN 0 hsz; rwa [List.drop_zero] at this
      rw [← e, e2]; rfl
    have HSTEP := hide (show foldR ([], false) (lns (pre ++ [x])) = stepR (foldR ([], false) (lns pre)) x.1.1 by
      unfold lns; rw [List.map_append]; exact foldR_snoc _ _ _)
    have HNE2 : Hid (∀ p ∈ lns (pre ++ [x]), p.1 ≠ []) := hide (by
      unfold lns; rw [List.map_append]
      intro p hp
      rcases List.mem_append.1 hp with hp | hp
      · exact HNE.out p hp
      · have hp' : p = x.1 := by simpa using hp
        rw [hp']; exact hx0)
    have HX0 := hide hx0
    obtain ⟨qi, hqi⟩ : ∃ qi, qi = Lib.indexByte (⟨#[32, 9]⟩ : ByteArray).data.toList (((LN[0]).toNat : Int).toNat.toUInt8) := ⟨_, rfl⟩
    have HQI := hide hqi
    have hwq : decide (0 ≤ qi) = wsT (x.1.1.getD 0 0) := by rw [hqi, hx00]; exact ws_index _
    have HWQ := hide hwq
    have HG := hide (lns_gather pre)
    clear hx0 hx00 hqi hwq
    cases hw : wsT (x.1.1.getD 0 0) with
    | true =>
      have t1 : decide (0 ≤ qi) = true := by rw [HWQ.out]; exact hw
      have HW := hide hw
      clear hw
      cases hop : (foldR ([], false) (lns pre)).2 with
      | false =>
        have HST : Hid (foldR ([], false) (lns (pre ++ [x])) = foldR ([], false) (lns pre)) := hide (by
          rw [HSTEP.out]; exact stepR_shut HW.out hop)
        rw [hop] at hO
        have hc := hO.cell
        have HOP := hide hop
        clear hop
        gi_wp2
        refine ⟨trivial, CallsIn.inRound l ((callsIn_wide.2 (Tryd.strings_IndexByte ⟨#[32, 9]⟩ (LN[0].toNat) W)).mono ?_)⟩
        rintro e w2 ⟨rfl, rfl⟩
        rw [← HQI.out]
        gi_wp2
        exact ⟨KeepsFrom.refl _ _, (KeepsOthers.refl _).walks, ⟨v, ls, hF, hR, by rw [HST.out]; exact HL.out⟩, by rw [HST.out, HOP.out]; exact hO, hRs, hT, HNE2.out, HB.out⟩
      | true =>
        have hne : ls ≠ [] := by
          rintro rfl
          exact HG.out.opened hop HL.out.symm
        obtain ⟨r, f, u, rfl⟩ : ∃ r f u, ls = r ++ [(f, u)] := by
          rcases List.eq_nil_or_concat ls with h | ⟨r, p, h⟩
          · exact absurd h hne
          · exact ⟨r, p.1, p.2, by rw [h, List.concat_eq_append]⟩
        obtain ⟨g, cap, rfl, hgB, hcap⟩ := hR.formG hne
        have hu : (r ++ [(f, u)])[r.length]? = some (f, u) := by simp
        obtain ⟨hrow, hub⟩ := hR.each r.length (f, u) hu
        obtain ⟨a, cu, eu⟩ : ∃ a cu, u = .slice (some ⟨a, 0, none⟩) f.2.length cu := by
          rcases hrow.2 with ⟨e, _⟩ | ⟨a, cu, _, e, _⟩
          · rw [show (f, u).2 = u from rfl] at e; rw [e] at hub; exact absurd rfl hub
          · exact ⟨a, cu, e⟩
        subst eu
        obtain ⟨aa, ha, _, hc2⟩ := hR.cells r.length _ hu
        injection ha with ha
        subst ha
        rw [Addr.add_lit, Nat.zero_add] at hc2
        have hfl : f.2.length ≤ 1048576 := by
          have := HRB.out.2 (f, _) (List.mem_append_right _ (List.mem_singleton_self _))
          have h2 := HG.out.lines f (by rw [← HL.out]; simp)
          omega
        obtain ⟨m, hm⟩ : ∃ m, m = (r ++ [(f, Value.slice (some ⟨a, 0, none⟩) f.2.length cu)]).length := ⟨_, rfl⟩
        have hmr : m = r.length + 1 := by rw [hm]; simp
        have hm20 : m ≤ 1048576 := by rw [hm]; exact HRB.out.1
        have HST : Hid (foldR ([], false) (lns (pre ++ [x])) = (rawPut (foldR ([], false) (lns pre)).1 x.1.1, true)) := hide (by
          rw [HSTEP.out]; exact stepR_open HW.out hop)
        have HL2 : Hid (r.map (·.1) ++ [(f.1, f.2 ++ [x.1.1])] = rawPut (foldR ([], false) (lns pre)).1 x.1.1) := hide (by
          rw [← HL.out, List.map_append]
          show _ = rawPut (r.map (·.1) ++ [f]) x.1.1
          rw [rawPut_snoc])
        rw [hop] at hO
        have hcO := hO.cell
        have hcF := hF.cell
        rw [← hm] at hcF
        have HR := hide hR
        have HF := hide hF
        have HROW := hide hrow
        have HM := hide hm
        have HMR := hide hmr
        have HFL := hide hfl
        have i0 : wrap64 ((m : Int) - 1) = (r.length : Int) := by rw [hmr]; unfold wrap64; omega
        have i2 : (r.length : Int) < m := by omega
        have i4 : r.length < m := by omega
        clear hop hm hmr hm20 hne hu hub hcap hgB hfl hR hF hrow
        gi_wp2
        refine ⟨trivial, CallsIn.inRound l ((callsIn_wide.2 (Tryd.strings_IndexByte ⟨#[32, 9]⟩ (LN[0].toNat) W)).mono ?_)⟩
        rintro e w2 ⟨rfl, rfl⟩
        rw [← HQI.out]
        have hba : w2.heap.size ≥ w.heap.size + 1 + 1 + 1 + 1 := hO.lt
        have hby1 : f.2.length + 1 ≤ maxLen := by have := HFL.out; unfold maxLen; omega
        have hby2 : (f.2.length + 1) * 16 ≤ 140737488355328 := by have := HFL.out; omega
        have HBA := hide hba
        have HBY := hide (And.intro hby1 hby2)
        clear hba hby1 hby2
        gi_wp2_with (gi_at_builtin; refine wpListIn_append_own _ rfl _ _ 31 rfl a 9 i0' (.string ByteArray.empty) 1 16 Tryd.underlying31 hi' hz0' hz1' hz2' rfl (by decide) _ f.2.length (lineVals f.2) rfl ((ownsRow_block HROW.out rfl).alloc _) ⟨w2.heap.size, 0, none⟩ 1 1 [.string LN] rfl rfl (cell_one_new _ _ _) (by simp [Value.oneCell']) HBY.out.1 HBY.out.2 (by have := (HROW.out.lt a rfl).2; simp; omega) ?_; intro v' w1 hown' hgrow _; obtain ⟨g', cap', rfl⟩ := ownsRow_succ hown'; obtain ⟨hcl, hfl, hgB⟩ := HR.out.grown hgrow)
        obtain ⟨k1, k2, k3⟩ := row_grown HROW.out hgrow
        have hmore := (HR.out.alloc _).more (by simp) rfl (by rw [← HLN.out]; exact hown') hgrow
        have hbx : ∀ b' t v, b' < w.heap.size + 1 + 1 + 1 + 1 → Boxed w2 b' t v → Boxed (w1.setCell ⟨g, r.length * 2 + 1, none⟩ (.slice (some ⟨g', 0, none⟩) (f.2.length + 1) cap')) b' t v :=
          fun b' t v hb hx => Box.far (k2 b' t v hb hx) (a := ⟨g, r.length * 2 + 1, none⟩) (by show b' ≠ g; omega) _
        have hbl := (k3 w.heap.size (by omega) HB.out.size).setCell (p := ⟨g, r.length * 2 + 1, none⟩) (by show w.heap.size ≤ g; omega) (.slice (some ⟨g', 0, none⟩) (f.2.length + 1) cap')
        have hko := k1.trans (KeepsOthers.setCell w1 ⟨g, r.length * 2 + 1, none⟩ (.slice (some ⟨g', 0, none⟩) (f.2.length + 1) cap'))
        refine ⟨hko.from _, hko.walks, ⟨_, _, hbx _ _ _ (by omega) HF.out, hmore, ?_⟩, ?_, hbx _ _ _ (by omega) hRs, hbx _ _ _ (by omega) hT, HNE2.out, HB.out.trans hbl⟩
        · rw [HST.out, List.map_append]; exact HL2.out
        · rw [HST.out]; exact hbx _ _ _ (by omega) hO
    | false =>
      have t1 : decide (0 ≤ qi) = false := by rw [HWQ.out]; exact hw
      have HW := hide hw
      clear hw
      have hLs : LN.size ≤ 70368744177664 := by
        rw [HLN.out, str_size]; have := x.2; omega
      have HLS := hide hLs
      have HFE : Hid (fieldV (fieldL LN.data.toList) = fieldV (fieldL x.1.1)) := hide (by rw [HLN.out, str_toList])
      have hcO := hO.cell
      have hfO := hO.frozen
      obtain ⟨Ao, ko, rfl⟩ := hR.form
      clear hLs
      cases hfd : fieldL x.1.1 with
      | none =>
        have HST : Hid (foldR ([], false) (lns (pre ++ [x])) = ((foldR ([], false) (lns pre)).1, false)) := hide (by
          rw [HSTEP.out]; exact stepR_none HW.out (.inl hfd))
        have HFD := hide hfd
        clear hfd
        gi_wp2
        refine ⟨trivial, CallsIn.inRound l ((callsIn_wide.2 (Tryd.strings_IndexByte ⟨#[32, 9]⟩ (LN[0].toNat) W)).mono ?_)⟩
        rintro e w2 ⟨rfl, rfl⟩
        rw [← HQI.out]
        gi_wp2
        refine ⟨trivial, CallsIn.inRound l ((callsIn_wide.2 (field_any LN _ HLS.out)).mono ?_)⟩
        rintro e w3 ⟨rfl, hb3⟩
        rw [HFE.out, HFD.out]
        unfold fieldV
        have hO3 : Boxed w3 (w.heap.size + 1 + 1 + 1) _ _ := Box.below hO hb3 hO.lt
        have hcO3 := hO3.cell
        have hfO3 := hO3.frozen
        gi_wp2
        have hF3 : Boxed w3 (w.heap.size + 1 + 1) _ _ := Box.below hF hb3 hF.lt
        have hR3 : Boxed w3 w.heap.size _ _ := Box.below hRs hb3 hRs.lt
        have hT3 : Boxed w3 (w.heap.size + 1) _ _ := Box.below hT hb3 hT.lt
        have hko := (keeps_below hb3).trans (KeepsOthers.setCell w3 ⟨w.heap.size + 1 + 1 + 1, 0, none⟩ (.bool false))
        refine ⟨hko.from _, hko.walks, ⟨_, ls, hF3.other (by omega) _, (hR.kept hb3).box (show Box w3 _ _ _ from hO3) (by decide) (by decide) _, by rw [HST.out]; exact HL.out⟩, by rw [HST.out]; exact hO3.set _, hR3.other (by omega) _, hT3.other (by omega) _, HNE2.out, (HB.out.trans (hb3.mono HB.out.size)).setCell (p := ⟨w.heap.size + 1 + 1 + 1, 0, none⟩) (by show w.heap.size ≤ w.heap.size + 1 + 1 + 1; omega) _⟩
      | some f =>
        obtain ⟨FN, hFN⟩ : ∃ FN, FN = str f.1 := ⟨_, rfl⟩
        obtain ⟨FV, hFV⟩ : ∃ FV, FV = str f.2 := ⟨_, rfl⟩
        have HFN := hide hFN
        have HFV := hide hFV
        have HFD : Hid (fieldV (fieldL x.1.1) = .tuple #[.string FN, .string FV, .bool true]) := hide (by rw [hfd, hFN, hFV]; rfl)
        have HFD0 := hide hfd
        clear hFN hFV hfd
        by_cases hlen : ls.length < 500
        · have HST : Hid (foldR ([], false) (lns (pre ++ [x])) = ((foldR ([], false) (lns pre)).1 ++ [(f.1, [f.2])], true)) := hide (by
            rw [HSTEP.out]; exact stepR_field HW.out HFD0.out (by rw [← HL.out, List.length_map]; exact hlen))
          have t2 : decide ((ls.length : Int) < 500) = true := decide_eq_true (by omega)
          have HLEN := hide hlen
          clear hlen
          gi_wp2
          refine ⟨trivial, CallsIn.inRound l ((callsIn_wide.2 (Tryd.strings_IndexByte ⟨#[32, 9]⟩ (LN[0].toNat) W)).mono ?_)⟩
          rintro e w2 ⟨rfl, rfl⟩
          rw [← HQI.out]
          gi_wp2
          refine ⟨trivial, CallsIn.inRound l ((callsIn_wide.2 (field_any LN _ HLS.out)).mono ?_)⟩
          rintro e w3 ⟨rfl, hb3⟩
          rw [HFE.out, HFD.out]
          have hO3 : Boxed w3 (w.heap.size + 1 + 1 + 1) _ _ := Box.below hO hb3 hO.lt
          have hF3 : Boxed w3 (w.heap.size + 1 + 1) _ _ := Box.below hF hb3 hF.lt
          have hcO3 := hO3.cell
          have hfO3 := hO3.frozen
          have hcF3 := hF3.cell
          have hfF3 := hF3.frozen
          have hba : w.heap.size + 1 + 1 + 1 + 1 ≤ w3.heap.size := hO3.lt
          obtain ⟨W4, hW4⟩ : ∃ W4, W4 = w3.setCell ⟨w.heap.size + 1 + 1 + 1, 0, none⟩ (.bool true) := ⟨_, rfl⟩
          have hz4 : W4.heap.size = w3.heap.size := by rw [hW4]; simp [World.setCell]
          have hR4 : RRow (w.heap.size + 1 + 1 + 1 + 1) (.slice Ao ls.length ko) ls W4 := by rw [hW4]; exact (hR.kept hb3).box (show Box w3 _ _ _ from hO3) (by decide) (by decide) _
          have hF4 : Boxed W4 (w.heap.size + 1 + 1) 42 (.slice Ao ls.length ko) := by rw [hW4]; exact hF3.other (by omega) _
          have hO4 : Boxed W4 (w.heap.size + 1 + 1 + 1) 4 (.bool true) := by rw [hW4]; exact hO3.set _
          have hRs4 : Boxed W4 w.heap.size 24 (.slice none 0 0) := by rw [hW4]; exact (show Boxed w3 _ _ _ from Box.below hRs hb3 hRs.lt).other (by omega) _
          have hT4 : Boxed W4 (w.heap.size + 1) 9 (.string ⟨#[]⟩) := by rw [hW4]; exact (show Boxed w3 _ _ _ from Box.below hT hb3 hT.lt).other (by omega) _
          have hko4 : KeepsOthers w2 W4 := by rw [hW4]; exact (keeps_below hb3).trans (KeepsOthers.setCell _ _ _)
          have hbl4 : Below w.heap.size w W4 := by rw [hW4]; exact (HB.out.trans (hb3.mono HB.out.size)).setCell (p := ⟨w.heap.size + 1 + 1 + 1, 0, none⟩) (by show w.heap.size ≤ w.heap.size + 1 + 1 + 1; omega) _
          obtain ⟨W5, hW5⟩ : ∃ W5, W5 = W4.alloc (.cells #[.string FV] 9) := ⟨_, rfl⟩
          have hz5 : W5.heap.size = w3.heap.size + 1 := by rw [hW5, World.size_alloc, hz4]
          have hR5 : RRow (w.heap.size + 1 + 1 + 1 + 1) (.slice Ao ls.length ko) ls W5 := by rw [hW5]; exact hR4.alloc _
          have hi5 : W5.ownsRow (w.heap.size + 1 + 1 + 1 + 1) 9 1 (.slice (some ⟨w3.heap.size, 0, none⟩) 1 1) 1 [.string FV] := by
            rw [hW5, ← hz4]; exact one_made W4 _ _ _ (by rw [hz4]; exact hba)
          have hnews : ∀ (j : Nat) u, [Value.string FN, Value.slice (some ⟨w3.heap.size, 0, none⟩) 1 1][j]? = some u → (W5.alloc (.cells #[.string FN, .slice (some ⟨w3.heap.size, 0, none⟩) 1 1] 50)).cell? ((⟨w3.heap.size + 1, 0, none⟩ : Addr).add j) = some u := by
            have h2 := two_new W5 (.string FN) (.slice (some ⟨w3.heap.size, 0, none⟩) 1 1) 50
            rw [hz5] at h2
            intro j u hj
            match j, hj with
            | 0, hj => simp at hj; subst hj; exact h2.1
            | 1, hj => simp at hj; subst hj; exact h2.2
            | (j + 2), hj => simp at hj
          have H5 := hide hW5
          have H4 := hide hW4
          have HN := hide hnews
          have HR5 := hide hR5
          have HI5 := hide hi5
          have HZ5 := hide hz5
          have HBA := hide hba
          have HF4 := hide hF4
          have HO4 := hide hO4
          have HRS4 := hide hRs4
          have HT4 := hide hT4
          have HKO4 := hide hko4
          have HBL4 := hide hbl4
          have HRLT : Hid (∀ (j : Nat) (p : RawV), ls[j]? = some p → ∀ a, p.2.ownBlock = some a → a < w3.heap.size) := hide (fun j p hj a ha => by rw [← hz4]; exact hR4.lt j p hj a ha)
          have HE : Hid (((w3.setCell ⟨w.heap.size + 1 + 1 + 1, 0, none⟩ (.bool true)).alloc (.cells #[.string FV] 9)) = W5) := hide (by rw [hW5, hW4])
          clear hba hz4 hR4 hF4 hO4 hRs4 hT4 hko4 hbl4 hz5 hR5 hi5 hnews hW5 hW4 hb3
          gi_wp2_with (gi_at_builtin; rw [HE.out]; refine wpListIn_append_own _ rfl _ _ 42 rfl (w.heap.size + 1 + 1 + 1 + 1) 50 ir (.agg #[.string ByteArray.empty, .slice none 0 0]) 2 40 Tryd.underlying42 hir hr0 hr1 hr2 rfl (by decide) _ ls.length (rawVals ls) rfl (HR5.out.alloc _).row ⟨w3.heap.size + 1, 0, none⟩ 1 1 [.string FN, .slice (some ⟨w3.heap.size, 0, none⟩) 1 1] rfl rfl HN.out (by simp [Value.oneCell']) (by have := HLEN.out; unfold maxLen; omega) (by have := HLEN.out; omega) (by have := HBA.out; have h2 := HZ5.out; rw [World.size_alloc]; omega) ?_; intro v' w7 hown' hgrow _; obtain ⟨g', cap', rfl⟩ := ownsRow_succ hown'; obtain ⟨k1, k2, k3⟩ := row_grown HR5.out.row hgrow; have hF7 : Boxed w7 (w.heap.size + 1 + 1) 42 (.slice Ao ls.length ko) := k2 _ _ _ (by omega) (by rw [H5.out]; exact HF4.out.alloc _); have hc7 := hF7.cell; have hf7 := hF7.frozen)
          have hI6 := HI5.out.alloc (.cells #[.string FN, .slice (some ⟨w3.heap.size, 0, none⟩) 1 1] 50)
          have hpush := (HR5.out.alloc (.cells #[.string FN, .slice (some ⟨w3.heap.size, 0, none⟩) 1 1] 50)).push (x := f.2) (n := f.1) (by rw [← HFV.out]; exact hI6) rfl HRLT.out (by rw [← HFN.out]; exact hown') hgrow
          have hbx : ∀ b' t v, b' < w.heap.size + 1 + 1 + 1 + 1 → b' ≠ w.heap.size + 1 + 1 → Boxed W4 b' t v → Boxed (w7.setCell ⟨w.heap.size + 1 + 1, 0, none⟩ (.slice (some ⟨g', 0, none⟩) (ls.length + 1) cap')) b' t v :=
            fun b' t v hb hne hx => (k2 b' t v hb (by rw [H5.out]; exact hx.alloc _)).other hne _
          have hko := ((HKO4.out.trans (by rw [H5.out]; exact KeepsOthers.alloc W4 _)).trans k1).trans (KeepsOthers.setCell w7 ⟨w.heap.size + 1 + 1, 0, none⟩ (.slice (some ⟨g', 0, none⟩) (ls.length + 1) cap'))
          have hb5 : Below w.heap.size w W5 := by rw [H5.out]; exact HBL4.out.alloc HBL4.out.size _
          have hbl := (hb5.trans (k3 w.heap.size (by omega) hb5.size)).setCell (p := ⟨w.heap.size + 1 + 1, 0, none⟩) (by show w.heap.size ≤ w.heap.size + 1 + 1; omega) (.slice (some ⟨g', 0, none⟩) (ls.length + 1) cap')
          refine ⟨hko.from _, hko.walks, ⟨_, _, hF7.set _, hpush.box (show Box w7 _ _ _ from hF7) (by decide) (by decide) _, ?_⟩, ?_, hbx _ _ _ (by omega) (by omega) HRS4.out, hbx _ _ _ (by omega) (by omega) HT4.out, HNE2.out, hbl⟩
          · rw [HST.out, List.map_append, HL.out]; rfl
          · rw [HST.out]; exact hbx _ _ _ (by omega) (by omega) HO4.out
        · have HST : Hid (foldR ([], false) (lns (pre ++ [x])) = ((foldR ([], false) (lns pre)).1, false)) := hide (by
            rw [HSTEP.out]; exact stepR_none HW.out (.inr (by rw [← HL.out, List.length_map]; omega)))
          have t2 : decide ((ls.length : Int) < 500) = false := decide_eq_false (by omega)
          have t3 : (500 : Int) ≤ ls.length := by omega
          clear hlen
          gi_wp2
          refine ⟨trivial, CallsIn.inRound l ((callsIn_wide.2 (Tryd.strings_IndexByte ⟨#[32, 9]⟩ (LN[0].toNat) W)).mono ?_)⟩
          rintro e w2 ⟨rfl, rfl⟩
          rw [← HQI.out]
          gi_wp2
          refine ⟨trivial, CallsIn.inRound l ((callsIn_wide.2 (field_any LN _ HLS.out)).mono ?_)⟩
          rintro e w3 ⟨rfl, hb3⟩
          rw [HFE.out, HFD.out]
          have hO3 : Boxed w3 (w.heap.size + 1 + 1 + 1) _ _ := Box.below hO hb3 hO.lt
          have hF3 : Boxed w3 (w.heap.size + 1 + 1) _ _ := Box.below hF hb3 hF.lt
          have hcO3 := hO3.cell
          have hfO3 := hO3.frozen
          have hcF3 := hF3.cell
          gi_wp2
          have hR3 : Boxed w3 w.heap.size _ _ := Box.below hRs hb3 hRs.lt
          have hT3 : Boxed w3 (w.heap.size + 1) _ _ := Box.below hT hb3 hT.lt
          have hko := (keeps_below hb3).trans (KeepsOthers.setCell w3 ⟨w.heap.size + 1 + 1 + 1, 0, none⟩ (.bool false))
          refine ⟨hko.from _, hko.walks, ⟨_, ls, hF3.other (by omega) _, (hR.kept hb3).box (show Box w3 _ _ _ from hO3) (by decide) (by decide) _, by rw [HST.out]; exact HL.out⟩, by rw [HST.out]; exact hO3.set _, hR3.other (by omega) _, hT3.other (by omega) _, HNE2.out, (HB.out.trans (hb3.mono HB.out.size)).setCell (p := ⟨w.heap.size + 1 + 1 + 1, 0, none⟩) (by show w.heap.size ≤ w.heap.size + 1 + 1 + 1; omega) _⟩
  case done =>
    rintro D ys W hD hS ⟨⟨v, ls, hF, hR, hL⟩, hO, hRs, hT, hne, hB⟩ hK
    have hyl : ys.length ≤ 1048576 := by
      have h1 := (each_sum s.data.toList).2.1
      rw [← hS, List.length_map, toList_length] at h1; omega
    have HRB := hide (raw_bounds hL hyl)
    have HS := hide hS
    have HL := hide hL
    have HNE := hide hne
    have HB := hide hB
    have HK := hide hK
    have HD := hide hD
    have hc := hF.cell
    clear bR bT bF bO bS hB0 hS hL hne hB hyl hD
    gi_wp2
    refine ⟨trivial, (callsIn_wide.2 (joined_any _ v ls W hR HRB.out.1 HRB.out.2)).mono ?_⟩
    rintro e w2 ⟨v2, rfl, hf2⟩
    obtain ⟨A, c, rfl⟩ := hf2.slice_len
    have hk2 := keeps_below hf2.below
    have hR2 : Boxed w2 w.heap.size 24 (.slice none 0 0) := Box.below hRs hf2.below hRs.lt
    have hT2 : Boxed w2 (w.heap.size + 1) 9 (.string ⟨#[]⟩) := Box.below hT hf2.below hT.lt
    have hc2 := hR2.cell
    have hf3 := hR2.frozen
    have hc4 := hT2.cell
    have hf4 := hT2.frozen
    gi_wp2
    have f1 := hf2.toBox (x := .slice A (outL ls).length c) hR2 (by decide) HB.out.size (HB.out.trans (hf2.below.mono HB.out.size)) (Nat.le_refl _)
    have hT3 : Boxed (w2.setCell ⟨w.heap.size, 0, none⟩ (.slice A (outL ls).length c)) (w.heap.size + 1) 9 (.string ⟨#[]⟩) := hT2.other (by omega) _
    have f2 := f1.toBox (x := .string ⟨#[]⟩) hT3 (by decide) (Nat.le_refl _) f1.below (by omega)
    have hR4 := (hR2.set (.slice A (outL ls).length c)).other (B' := w.heap.size + 1) (by omega) (.string ⟨#[]⟩)
    have hT4 := hT3.set (.string ⟨#[]⟩)
    have hK4 : ((w2.setCell ⟨w.heap.size, 0, none⟩ (.slice A (outL ls).length c)).setCell ⟨w.heap.size + 1, 0, none⟩ (.string ⟨#[]⟩)).heap[D]? = some (.deferred (some [])) := (((hk2.trans (KeepsOthers.setCell _ _ _)).trans (KeepsOthers.setCell _ _ _))).same D _ HK.out rfl
    have hcr := cell_kept hR4.cell (grownBy_putObj' _ D (.deferred none)) (fun r e => by cases e; exact ⟨_, hK4, rfl⟩)
    have hct := cell_kept hT4.cell (grownBy_putObj' _ D (.deferred none)) (fun r e => by cases e; exact ⟨_, hK4, rfl⟩)
    have hh : headL s.data.toList = (outR (foldR ([], false) (lns ys)).1, []) := by
      have := headR_fold s.data.toList [] false (by rw [← HS.out]; exact HNE.out)
      unfold headL
      rw [show List.map toF [] = [] from rfl] at this
      rw [this]
      unfold outR toF
      rw [List.map_map, ← HS.out]; rfl
    refine ⟨by simp, .inl ⟨_, _, rfl, run_takeDeferred hK4, ?_⟩⟩
    refine ⟨.tuple #[.slice A (outL ls).length c, .string ⟨#[]⟩], ?_, .slice A (outL ls).length c, ?_, ?_⟩
    · simp [results, Tryd.f11, go_sem, hcr, hct]
    · rw [hh]; rfl
    · rw [hh]
      show FBuf w.heap.size _ (outR (foldR ([], false) (lns ys)).1) w _
      rw [← HL.out, ← outR_of]
      exact ⟨ownsRow_putObj f2.1 _ hK4 rfl, f2.below.trans (belowK_b (w := w) (Nat.le_refl _) _ D _ _ (by have := HD.out; simp at this; omega) hK4 rfl rfl), Nat.le_trans f2.2.2 (grownBy_putObj' _ D _).size⟩
  case stop =>
    rintro D c pre W hD hS ⟨rfl, q, t, hq, hne, v, hR2, hf2, hT2⟩ hK
    have hh : headL s.data.toList = (outR (foldR ([], false) q).1, t) := by
      have := headR_stop s.data.toList [] false q t hne (by rw [← hq]; exact hS)
      unfold headL
      rw [show List.map toF [] = [] from rfl] at this
      rw [this]
      unfold outR toF
      rw [List.map_map]; rfl
    obtain ⟨A, c, rfl⟩ := hf2.slice_len
    have HH := hide hh
    have HD := hide hD
    clear bR bT bF bO bS hB0 hD hS hh hq
    gi_wp2
    have hcr := cell_kept hR2.cell (grownBy_putObj' _ D (.deferred none)) (fun r e => by cases e; exact ⟨_, hK, rfl⟩)
    have hct := cell_kept hT2.cell (grownBy_putObj' _ D (.deferred none)) (fun r e => by cases e; exact ⟨_, hK, rfl⟩)
    refine ⟨by simp, .inl ⟨_, _, rfl, run_takeDeferred hK, ?_⟩⟩
    refine ⟨.tuple #[.slice A (outR (foldR ([], false) q).1).length c, .string (str t)], ?_, .slice A (outR (foldR ([], false) q).1).length c, ?_, ?_⟩
    · simp [results, Tryd.f11, go_sem, hcr, hct]
    · rw [HH.out]
    · rw [HH.out]
      exact ⟨ownsRow_putObj hf2.1 _ hK rfl, hf2.below.trans (belowK_b (w := w) (Nat.le_refl _) _ D _ _ (by have := HD.out; simp at this; omega) hK rfl rfl), Nat.le_trans hf2.2.2 (grownBy_putObj' _ D _).size⟩
theorem head_any (s : ByteArray) (hs : s.size ≤ 1048576) (w : World) :
    Calls Tryd.prog 11 #[.string s] w fun e W' => ∃ v, e = .returned (.tuple #[v, .string (str (headL s.data.toList).2)]) ∧ FBuf w.heap.size v (headL s.data.toList).1 w W' :=
  (callsIn_wide (n := 4)).1 (head_in 4 (by omega) s hs w)
end Go.Proofs.YtcndklegoadjcaaDoor
