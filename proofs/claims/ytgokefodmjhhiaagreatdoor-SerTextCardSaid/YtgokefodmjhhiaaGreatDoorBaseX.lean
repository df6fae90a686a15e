/- Texts that only this claim wants, in one: each with its own head. No statement is proved here. -/
import Derived.Test.YtgokefodmjhhiaaGreatDoorBaseP
import Derived.Test.YtgokefodmjhhiaaGreatDoorTreeD
import Derived.Test.YtgokefodmjhhiaaGreatDoorEntX
import Derived.Test.YtgokefodmjhhiaaGreatDoorEntW
import Derived.Test.YtgokefodmjhhiaaGreatDoorRawW
import Derived.Test.YtgokefodmjhhiaaGreatDoorBaseO
import Derived.Test.YtgokefodmjhhiaaGreatDoorRef14S
import Derived.Test.YtgokefodmjhhiaaGreatDoorBaseN
import Derived.Test.YtgokefodmjhhiaaGreatDoorTreeY
import Derived.Test.YtgokefodmjhhiaaGreatDoorRef14L
/- WALKS of a builder's WriteString, that leaves blocks of other types as they are. No statement is proved here. Own work of the verifier. -/
namespace Go.Proofs.YtgokefodmjhhiaaGreatDoor
open Go.RowKit
set_option linter.unusedVariables false
set_option linter.unusedSimpArgs false
set_option maxRecDepth 100000
/-- blocks of cells that are no bytes and no builder are as they were -/
def KT (w w' : World) : Prop := ∀ (g : Nat) (cur : Array Value) (T : TypeId) (fz : Nat × Nat), w.heap[g]? = some (Obj.cells cur T fz) → T ≠ 5 → T ≠ 50 → w'.heap[g]? = w.heap[g]?
theorem KT.refl (w : World) : KT w w := fun _ _ _ _ _ _ _ => rfl
theorem KT.trans {a b c : World} (h : KT a b) (k : KT b c) : KT a c := fun g cur T fz hg h1 h2 => by
  have e := h g cur T fz hg h1 h2
  exact (k g cur T fz (e.trans hg) h1 h2).trans e
theorem KT.below {w w' : World} (h : Below w.heap.size w w') : KT w w' := fun g cur T fz hg _ _ => h.block g (Array.getElem?_eq_some_iff.1 hg).1
theorem KT.alloc (w : World) (o : Obj) : KT w (w.alloc o) := fun g cur T fz hg _ _ => Below.heap_alloc w o g (Array.getElem?_eq_some_iff.1 hg).1
theorem KT.set {w : World} {b : Nat} {cs : Array Value} {fr : Nat × Nat} (h : w.heap[b]? = some (.cells cs 50 fr)) (i : Nat) (v : Value) : KT w (w.setCell ⟨b, i, none⟩ v) := fun g cur T fz hg _ h2 => by
  have hne : g ≠ b := by
    rintro rfl; rw [h] at hg; injection hg with hg; injection hg with _ e; exact h2 e.symm
  exact Below.heap_setCell w _ v g hne
theorem KT.own {w w' : World} {B n : Nat} {v : Value} {xs : List Value} (h : w.ownsRow B 5 1 v n xs) (hg : w.grownBy w' v.ownBlock) : KT w w' := fun m cur T fz hm h1 _ => by
  refine hg.block m (Array.getElem?_eq_some_iff.1 hm).1 (fun he => ?_)
  rcases h.2 with ⟨rfl, _⟩ | ⟨g, cap, cur2, rfl, _, hh, _⟩
  · simp [Value.ownBlock] at he
  · have e1 : g = m := by simpa [Value.ownBlock] using he.symm
    subst e1
    rw [hh] at hm; injection hm with hm; injection hm with _ e; exact h1 e.symm
theorem copyCheckT_any (B b : Nat) (bs : List Value) (w : World) (h : Lib.IsBuilder 50 5 B b bs w) :
    Calls Tryz.prog 87 #[.pointer (some ⟨b, 0, none⟩)] w fun e w' => e = .returned (.tuple #[]) ∧ Lib.BuilderAt 50 5 B b (.pointer (some ⟨b, 0, none⟩)) bs w' ∧ Below B w w' ∧ KT w w' := by
  rcases h with h | h
  · obtain ⟨hB, v, hbk, ho, hne⟩ := id h
    refine (copyCheck_fresh b w h.cell0 h.shape h.frozen0).mono ?_
    rintro e w' ⟨rfl, rfl⟩
    exact ⟨rfl, h.used _, (Below.refl B w).setCell (p := ⟨b, 0, none⟩) h.1 _, KT.set hbk _ _⟩
  · refine (copyCheck_used b w h.cell0).mono ?_
    rintro e w' ⟨rfl, rfl⟩
    exact ⟨rfl, h, Below.refl B _, KT.refl _⟩
set_option maxHeartbeats 1000000 in
theorem writeStringT_any (B b : Nat) (l : List UInt8) (s : ByteArray) (W0 w : World) (h : Bld B b l W0 w) (hlen : l.length + s.size ≤ 140737488355328) :
    Calls Tryz.prog 45 #[.pointer (some ⟨b, 0, none⟩), .string s] w fun e w' => e = .returned (.tuple #[.int .i64 s.size, .nilIface]) ∧ Bld B b (l ++ s.data.toList) W0 w' ∧ KT w w' := by
  obtain ⟨h, hbel, hBw⟩ := h
  obtain ⟨i0, hi, hz0, hz1, hz2⟩ := info_parts info_u8
  have HBL := hide hbel
  clear hbel
  go_enter Tryz.func45, Tryz.ntmps45
  go_wp2_with fail
  refine (copyCheckT_any B b (cellsOf l) _ h).mono ?_
  rintro e w1 ⟨rfl, h1, hb1, hk1⟩
  have HK1 := hide hk1
  clear hk1
  obtain ⟨hB, v, hbk, hown, hne⟩ := h1
  have c1 : w1.cell? ⟨b, 1, none⟩ = some v := by rw [Lib.cell_of_heap hbk]; rfl
  have hlt : b < w1.heap.size := lt_of_block hbk
  have hl1 : (cellsOf l).length = l.length := cellsOf_length l
  have HBK := hide hbk
  have HOWN := hide hown
  have HNE := hide hne
  have HB1 := hide hb1
  have hsz1 := hb1.size
  have HI := hide hi
  have HZ0 := hide hz0
  have HZ1 := hide hz1
  have HZ2 := hide hz2
  have HL1 := hide hl1
  clear hbk hown hne hb1 hi hz0 hz1 hz2 h
  go_wp2_with (refine Lib.wpList_append_own_string _ rfl _ _ 48 9 rfl B 5 i0 Tryz.underlying48 Tryz.underlying9 HI.out HZ0.out HZ1.out HZ2.out v (cellsOf l).length (cellsOf l) rfl HOWN.out s rfl (by rw [HL1.out]; unfold maxLen; omega) (by rw [HL1.out]; omega) (by omega) ?_
               intro v' w2 hown' hgrow _
               obtain ⟨ao, n', cap, rfl⟩ : ∃ ao n' cap, v' = .slice ao n' cap := by
                 rcases hown'.2 with ⟨hv, _⟩ | ⟨g, cap, cur, hv, _⟩
                 · exact ⟨_, _, _, hv⟩
                 · exact ⟨_, _, _, hv⟩
               have hb2 : w2.heap[b]? = some (.cells #[.pointer (some ⟨b, 0, none⟩), v] 50 (0, 0)) := by
                 rw [hgrow.block b hlt (fun e => HNE.out e.symm)]
                 exact HBK.out
               have d1 : w2.cell? ⟨b, 1, none⟩ = some v := by rw [Lib.cell_of_heap hb2]; rfl
               have f1 : w2.frozen? ⟨b, 1, none⟩ = false := Lib.frozen_of_heap hb2 1
               have HKT := hide (HK1.out.trans (KT.own HOWN.out hgrow))
               have HO2 := hide hown'
               have HG2 := hide hgrow
               have HB2 := hide hb2
               clear hown' hgrow hb2)
  go_ret2
  have hb3 : Below B w w2 := HB1.out.grown HG2.out (by omega) (fun k hk => (HOWN.out.lt k hk).1)
  refine ⟨rfl, ⟨.inr ?_, (HBL.out.trans hb3).setCell (p := ⟨b, 1, none⟩) hB _, ?_⟩, HKT.out.trans (KT.set HB2.out _ _)⟩
  · refine Lib.BuilderAt.put (T := 50) (e := 5) hB HB2.out (bs' := cellsOf (l ++ s.data.toList)) ?_ (by decide)
    have ho := HO2.out
    have e1 : cellsOf (l ++ s.data.toList) = cellsOf l ++ Lib.strCells s := by rw [cellsOf_str, cellsOf, List.map_append]; rfl
    rw [e1, List.length_append, Lib.strCells_length]
    exact ho
  · have := hb3.size
    simp [World.setCell]
    omega
end Go.Proofs.YtgokefodmjhhiaaGreatDoor

/- WALK of ser.Text. No statement is proved here. Own work of the verifier. -/
namespace Go.Proofs.YtgokefodmjhhiaaGreatDoor
open Go.RowKit
set_option linter.unusedVariables false
set_option linter.unusedSimpArgs false
set_option maxRecDepth 100000
theorem u8_level : (5 : TypeId) ≠ 118 := by decide
/-- what the walk itself writes leaves a builder as it is -/
theorem bld_inv (B b : Nat) (W0 : World) : InvOK B (fun s w => Bld B b s W0 w) := by
  intro s w w' row hi hg hr
  obtain ⟨h1, h2, h3⟩ := hi
  refine ⟨?_, h2.grown hg h3 (fun k hk => (hr k hk).1), Nat.le_trans h3 hg.size⟩
  have key : ∀ p, Lib.BuilderAt 50 5 B b p (cellsOf s) w → Lib.BuilderAt 50 5 B b p (cellsOf s) w' := by
    intro p h
    have hlt := h.lt
    obtain ⟨hB, v, hbk, hown, hne⟩ := h
    refine ⟨hB, v, (hg.block b hlt (fun e => ?_)).trans hbk, hown.kept hg ?_, hne⟩
    · obtain ⟨_, cur, h4⟩ := hr b e.symm
      rw [hbk] at h4; injection h4 with h4; injection h4 with _ h4
      exact absurd h4 (by decide)
    · rcases hown.2 with ⟨rfl, _⟩ | ⟨g, cap, cur2, rfl, _, hh, _⟩
      · exact .inl (by simp [Value.ownBlock])
      · refine .inr (fun e => ?_)
        obtain ⟨_, cur, h4⟩ := hr g (by rw [← e]; simp [Value.ownBlock])
        rw [hh] at h4; injection h4 with h4; injection h4 with _ h4
        exact absurd h4 (by decide)
  rcases h1 with h | h
  · exact .inl (key _ h)
  · exact .inr (key _ h)
theorem frl_kt {B : Nat} {w w' : World} (hb : Below B w w') (hk : KT w w') : FrL B w w' :=
  ⟨hb, fun g cur T fz hg hT => hk g cur T fz hg (by rcases hT with rfl | rfl <;> decide) (by rcases hT with rfl | rfl <;> decide)⟩
/-- all of a tree's texts -/
def textT : Tr → List UInt8
  | .nil => []
  | .cons h K R => (if h.name = [] then h.text else textT K) ++ textT R
def textBg (s : List UInt8) (h : NdH) (_ : Tr) : List UInt8 := if h.name = [] then s ++ h.text else s
def elemB (h : NdH) : Bool := decide (h.name ≠ [])
theorem vis_text (T : Tr) (s : List UInt8) : vis textBg (fun s _ => s) elemB T s = s ++ textT T := by
  induction T generalizing s with
  | nil => simp [vis, textT]
  | cons h K R ihk ihr =>
    simp only [vis, textT, textBg]
    by_cases hn : h.name = []
    · have e : elemB h = false := by simp [elemB, hn]
      simp [hn, e, ihr]
    · have e : elemB h = true := by simp [elemB, hn]
      simp [hn, e, ihk, ihr]
/-- isText -/
theorem isText_any (h : NdH) (A1 A2 : Option Addr) (n1 c1 n2 c2 : Nat) (w : World) :
    Calls Tryz.prog 83 #[.agg #[.string (str h.name), .slice A1 n1 c1, .string (str h.text), .slice A2 n2 c2]] w fun e w' => e = .returned (.bool (!elemB h)) ∧ Below w.heap.size w w' := by
  have HBK := hide (below_one w (Obj.cells #[.string (str h.name), .slice A1 n1 c1, .string (str h.text), .slice A2 n2 c2] 41))
  obtain ⟨X, hX⟩ : ∃ X, X = str h.name := ⟨_, rfl⟩
  rw [← hX] at HBK ⊢
  by_cases hn : h.name = []
  · have e : elemB h = false := by simp [elemB, hn]
    have hX0 : X = ⟨#[]⟩ := by rw [hX, hn]; rfl
    rw [e]
    clear hX hn e
    subst hX0
    go_enter Tryz.func83, Tryz.ntmps83
    go_wp2_with fail
    go_ret
    exact ⟨rfl, HBK.out⟩
  · have e : elemB h = true := by simp [elemB, hn]
    have s1 : X.toList.isEmpty = false := by
      rw [hX, str_list]
      cases hx : h.name with
      | nil => exact absurd hx hn
      | cons _ _ => rfl
    rw [e]
    clear hX hn e
    go_enter Tryz.func83, Tryz.ntmps83
    go_wp2_with fail
    go_ret
    exact ⟨rfl, HBK.out⟩
theorem bl_one {w w1 w2 : World} (h : Below w.heap.size w w1) (h2 : Below w1.heap.size w1 w2) : Below w.heap.size w w2 := h.trans (h2.mono h.size)
set_option maxHeartbeats 8000000 in
theorem text_beg (B : Nat) (W0 : World) : BegOK B 82 #[.pointer (some ⟨B, 0, none⟩)] (fun s w => Bld B B s W0 w) textBg elemB List.length 1000000000 (fun _ _ => True) := by
  intro s w h K av A m c hi hB _ ha hk hm
  obtain ⟨A1, c1, rfl⟩ := ha.1.form
  have hbk := below_one w (Obj.cells #[.string (str h.name), .slice A1 h.attrs.length c1, .string (str h.text), .slice A m c] 41)
  show Calls Tryz.prog _ #[ndV h _ _, .pointer (some ⟨B, 0, none⟩)] w _
  unfold ndV
  obtain ⟨R, hR⟩ : ∃ R, R = (if elemB h = true then Value.slice A m c else Value.slice none 0 0) := ⟨_, rfl⟩
  rw [← hR]
  have HRR := hide hR
  clear hR
  go_enter Tryz.func82, Tryz.ntmps82
  go_wp2_with fail
  refine (isText_any h A1 A _ _ _ _ _).mono ?_
  rintro e w1 ⟨rfl, hb1⟩
  have hb := bl_one hbk hb1
  have hcell := (hb1.block w.heap.size (by rw [World.size_alloc]; omega)).trans (heap_alloc_new w _)
  have d2 : w1.cell? ⟨w.heap.size, 2, none⟩ = some (.string (str h.text)) := (Lib.cell_of_heap hcell 2).trans rfl
  have d3 : w1.cell? ⟨w.heap.size, 3, none⟩ = some (.slice A m c) := (Lib.cell_of_heap hcell 3).trans rfl
  obtain ⟨Y, hY⟩ : ∃ Y, Y = str h.text := ⟨_, rfl⟩
  have hYl : Y.data.toList = h.text := by rw [hY, str_toList]
  rw [← hY] at d2
  obtain ⟨X, hX⟩ : ∃ X, X = str h.name := ⟨_, rfl⟩
  rw [← hY, ← hX]
  have HF := hide (FrL.kept (B := B) hb hB)
  have HKT := hide (KT.below hb)
  have HBB := hide (hb.mono hB)
  have HI := hide hi
  have HI1 := hide (hi.kept hb)
  by_cases e : elemB h = false
  · rw [e]
    have hn : h.name = [] := by simpa [elemB] using e
    have hs : textBg s h K = s ++ h.text := by simp [textBg, hn]
    rw [hs] at hm
    have HS := hide hs
    have HEL := hide e
    rw [List.length_append] at hm
    have HWS := hide (writeStringT_any B B s Y w w1 ⟨HI1.out.1, HBB.out, HI1.out.2.2⟩ (by rw [← toList_length, hYl]; omega))
    rw [hYl] at HWS
    clear hs hn hm hi hb hbk hb1 hcell ha hk hY hYl hX e
    go_wp2_with fail
    refine HWS.out.mono ?_
    rintro e w2 ⟨rfl, hb2, hk2⟩
    have HR : Hid (Bld B B (s ++ h.text) W0 w2 ∧ FrL B w w2) := hide ⟨⟨hb2.1, HI.out.2.1.trans hb2.2.1, hb2.2.2⟩, frl_kt hb2.2.1 (HKT.out.trans hk2)⟩
    clear hb2 hk2
    go_wp2_with fail
    go_ret
    exact ⟨by rw [HRR.out, HEL.out]; rfl, by rw [HS.out]; exact HR.out⟩
  · replace e : elemB h = true := by simpa using e
    rw [e]
    have hn : h.name ≠ [] := by simpa [elemB] using e
    have hs : textBg s h K = s := by simp [textBg, hn]
    have HS := hide hs
    have HEL := hide e
    clear hs hn hm hi hb hbk hb1 hcell ha hk hY hYl hX e
    go_wp2_with fail
    go_ret
    exact ⟨by rw [HRR.out, HEL.out]; rfl, by rw [HS.out]; exact HI1.out, HF.out⟩
theorem textT_le (s : List UInt8) (h : NdH) (K : Tr) : s.length ≤ (textBg s h K).length := by
  unfold textBg; split
  · rw [List.length_append]; omega
  · exact Nat.le_refl _
set_option maxHeartbeats 4000000 in
theorem serText_any (v : Value) (T : Tr) (w : World) (hT : NodesIn w v T) (hc : T.count ≤ 1000000) (hl : (textT T).length ≤ 1000000000) :
    Calls Tryz.prog 41 #[v] w fun e w' => e = .returned (.string (str (textT T))) ∧ Below w.heap.size w w' := by
  have hbk := below_one w (Obj.cells #[.pointer none, .slice none 0 0] 50)
  have hnew : Bld w.heap.size w.heap.size [] w (w.alloc (Obj.cells #[.pointer none, .slice none 0 0] 50)) := Bld.new (Below.refl _ _) (Nat.le_refl _)
  have HB := hide (begins_gen w.heap.size 82 #[.pointer (some ⟨w.heap.size, 0, none⟩)] (enters_of Tryz.func82 (by kernel_rfl) rfl) (fun s w' => Bld w.heap.size w.heap.size s w w') textBg elemB List.length 1000000000 (fun _ _ => True) (fun s h K => textT_le s h K) (bld_inv _ _ _) (text_beg _ _) v T [] (w.alloc (Obj.cells #[.pointer none, .slice none 0 0] 50)) (NodesC.mono hT (same_below hbk) (fun _ x => x)) (Tr.ev_true T) hc (by rw [vis_text, List.nil_append]; exact hl) hnew hbk.size)
  rw [vis_text, List.nil_append] at HB
  obtain ⟨A, c, rfl⟩ := NodesC.form hT
  have hmf : ∀ (fn : Fn) (first cap : Array Value) (w : World), (Instr.makeFunc fn first cap).run Tryz.prog w = .ok (.func fn first cap) w := fun _ _ _ _ => rfl
  clear hT hbk hnew
  go_enter Tryz.func41, Tryz.ntmps41
  go_wp2_with fail
  refine HB.out.mono ?_
  rintro e w1 ⟨rfl, h1, h2⟩
  have HS := hide h1.string
  clear h1 h2
  go_wp2_with fail
  refine HS.out.mono ?_
  rintro e w2 ⟨rfl, h3⟩
  have H3 := hide h3
  clear h3
  go_wp2_with fail
  go_ret
  exact ⟨rfl, H3.out⟩
end Go.Proofs.YtgokefodmjhhiaaGreatDoor

/- WALKS of a builder's WriteString, that leaves all but builders and rows of bytes as it is. No statement is proved here. Own work of the verifier. -/
namespace Go.Proofs.YtgokefodmjhhiaaGreatDoor
open Go.RowKit
set_option linter.unusedVariables false
set_option linter.unusedSimpArgs false
set_option maxRecDepth 100000
/-- blocks of cells that are no builders and no rows of bytes are as they were -/
def KB (w w' : World) : Prop := ∀ (m : Nat) cur e fr, w.heap[m]? = some (Obj.cells cur e fr) → e ≠ 50 → e ≠ 5 → w'.heap[m]? = some (Obj.cells cur e fr)
theorem KB.refl (w : World) : KB w w := fun _ _ _ _ h _ _ => h
theorem KB.trans {a b c : World} (h : KB a b) (k : KB b c) : KB a c := fun m cur e fr hm h1 h2 => k m cur e fr (h m cur e fr hm h1 h2) h1 h2
theorem KB.alloc (w : World) (o : Obj) : KB w (w.alloc o) := fun m cur e fr hm _ _ => (Below.heap_alloc w o m (Array.getElem?_eq_some_iff.1 hm).1).trans hm
theorem KB.below {w w' : World} (h : Below w.heap.size w w') : KB w w' := fun m cur e fr hm _ _ => (h.block m (Array.getElem?_eq_some_iff.1 hm).1).trans hm
theorem KB.set {w : World} {b : Nat} {cs : Array Value} {fr : Nat × Nat} (h : w.heap[b]? = some (.cells cs 50 fr)) (i : Nat) (v : Value) : KB w (w.setCell ⟨b, i, none⟩ v) := fun m cur e fr' hm h1 h2 => by
  have hne : m ≠ b := by
    rintro rfl
    rw [h] at hm
    injection hm with hm
    injection hm with _ hm
    exact h1 hm.symm
  exact (Below.heap_setCell w _ v m hne).trans hm
theorem KB.own {w w' : World} {B n : Nat} {v : Value} {xs : List Value} (h : w.ownsRow B 5 1 v n xs) (hg : w.grownBy w' v.ownBlock) : KB w w' := fun m cur e fr hm h1 h2 => by
  refine (hg.block m (Array.getElem?_eq_some_iff.1 hm).1 (fun he => ?_)).trans hm
  rcases h.2 with ⟨rfl, _⟩ | ⟨g, cap, cur', rfl, _, hh, _⟩
  · simp [Value.ownBlock] at he
  · have e1 : g = m := by simpa [Value.ownBlock] using he.symm
    subst e1
    rw [hh] at hm
    injection hm with hm
    injection hm with _ hm
    exact h2 hm.symm
theorem below_one' (w : World) (o : Obj) : Below w.heap.size w (w.alloc o) := (Below.refl _ _).alloc (Nat.le_refl _) _
theorem copyCheckK_any (B b : Nat) (bs : List Value) (w : World) (h : Lib.IsBuilder 50 5 B b bs w) :
    Calls Tryz.prog 87 #[.pointer (some ⟨b, 0, none⟩)] w fun e w' => e = .returned (.tuple #[]) ∧ Lib.BuilderAt 50 5 B b (.pointer (some ⟨b, 0, none⟩)) bs w' ∧ Below B w w' ∧ KB w w' := by
  rcases h with h | h
  · obtain ⟨hB, v, hbk, ho, hne⟩ := id h
    refine (copyCheck_fresh b w h.cell0 h.shape h.frozen0).mono ?_
    rintro e w' ⟨rfl, rfl⟩
    exact ⟨rfl, h.used _, (Below.refl B w).setCell (p := ⟨b, 0, none⟩) h.1 _, KB.set hbk _ _⟩
  · refine (copyCheck_used b w h.cell0).mono ?_
    rintro e w' ⟨rfl, rfl⟩
    exact ⟨rfl, h, Below.refl B _, KB.refl _⟩
set_option maxHeartbeats 1000000 in
theorem writeStringK_any (B b : Nat) (l : List UInt8) (s : ByteArray) (W0 w : World) (h : Bld B b l W0 w) (hlen : l.length + s.size ≤ 140737488355328) :
    Calls Tryz.prog 45 #[.pointer (some ⟨b, 0, none⟩), .string s] w fun e w' => e = .returned (.tuple #[.int .i64 s.size, .nilIface]) ∧ Bld B b (l ++ s.data.toList) W0 w' ∧ KB w w' := by
  obtain ⟨h, hbel, hBw⟩ := h
  obtain ⟨i0, hi, hz0, hz1, hz2⟩ := info_parts info_u8
  have HBL := hide hbel
  clear hbel
  go_enter Tryz.func45, Tryz.ntmps45
  go_wp2_with fail
  refine (copyCheckK_any B b (cellsOf l) _ h).mono ?_
  rintro e w1 ⟨rfl, h1, hb1, hk1⟩
  have HK1 := hide hk1
  clear hk1
  obtain ⟨hB, v, hbk, hown, hne⟩ := h1
  have c1 : w1.cell? ⟨b, 1, none⟩ = some v := by rw [Lib.cell_of_heap hbk]; rfl
  have hlt : b < w1.heap.size := lt_of_block hbk
  have hl1 : (cellsOf l).length = l.length := cellsOf_length l
  have HBK := hide hbk
  have HOWN := hide hown
  have HNE := hide hne
  have HB1 := hide hb1
  have hsz1 := hb1.size
  have HI := hide hi
  have HZ0 := hide hz0
  have HZ1 := hide hz1
  have HZ2 := hide hz2
  have HL1 := hide hl1
  clear hbk hown hne hb1 hi hz0 hz1 hz2 h
  go_wp2_with (refine Lib.wpList_append_own_string _ rfl _ _ 48 9 rfl B 5 i0 Tryz.underlying48 Tryz.underlying9 HI.out HZ0.out HZ1.out HZ2.out v (cellsOf l).length (cellsOf l) rfl HOWN.out s rfl (by rw [HL1.out]; unfold maxLen; omega) (by rw [HL1.out]; omega) (by omega) ?_
               intro v' w2 hown' hgrow _
               obtain ⟨ao, n', cap, rfl⟩ : ∃ ao n' cap, v' = .slice ao n' cap := by
                 rcases hown'.2 with ⟨hv, _⟩ | ⟨g, cap, cur, hv, _⟩
                 · exact ⟨_, _, _, hv⟩
                 · exact ⟨_, _, _, hv⟩
               have hb2 : w2.heap[b]? = some (.cells #[.pointer (some ⟨b, 0, none⟩), v] 50 (0, 0)) := by
                 rw [hgrow.block b hlt (fun e => HNE.out e.symm)]
                 exact HBK.out
               have d1 : w2.cell? ⟨b, 1, none⟩ = some v := by rw [Lib.cell_of_heap hb2]; rfl
               have f1 : w2.frozen? ⟨b, 1, none⟩ = false := Lib.frozen_of_heap hb2 1
               have HKB := hide (HK1.out.trans (KB.own HOWN.out hgrow))
               have HO2 := hide hown'
               have HG2 := hide hgrow
               have HB2 := hide hb2
               clear hown' hgrow hb2)
  go_ret2
  have hb3 : Below B w w2 := HB1.out.grown HG2.out (by omega) (fun k hk => (HOWN.out.lt k hk).1)
  refine ⟨rfl, ⟨.inr ?_, (HBL.out.trans hb3).setCell (p := ⟨b, 1, none⟩) hB _, ?_⟩, HKB.out.trans (KB.set HB2.out _ _)⟩
  · refine Lib.BuilderAt.put (T := 50) (e := 5) hB HB2.out (bs' := cellsOf (l ++ s.data.toList)) ?_ (by decide)
    have ho := HO2.out
    have e1 : cellsOf (l ++ s.data.toList) = cellsOf l ++ Lib.strCells s := by rw [cellsOf_str, cellsOf, List.map_append]; rfl
    rw [e1, List.length_append, Lib.strCells_length]
    exact ho
  · have := hb3.size
    simp [World.setCell]
    omega

end Go.Proofs.YtgokefodmjhhiaaGreatDoor

/- WALKS of htok.Write and writeStart. No statement is proved here. Own work of the verifier. -/
namespace Go.Proofs.YtgokefodmjhhiaaGreatDoor
open Go.RowKit
set_option linter.unusedVariables false
set_option linter.unusedSimpArgs false
set_option maxRecDepth 100000
theorem alloc_new_block (w : World) (o : Obj) : (w.alloc o).heap[w.heap.size]? = some o := by show (w.heap.push _)[w.heap.size]? = _; exact Array.getElem?_push_size
theorem toA_append (a b : ByteArray) : (a ++ b).data.toList = a.data.toList ++ b.data.toList := by
  simp
theorem attrsW_take {A : List AtL} {k : Nat} {f : AtL} (h : A[k]? = some f) : attrsW (escQ true) (A.take (k + 1)) = attrsW (escQ true) (A.take k) ++ attrW (escQ true) f := by
  unfold attrsW
  rw [List.take_add_one, h, List.flatMap_append]; simp
theorem writeG_take {A : List TokG} {k : Nat} {f : TokG} (h : A[k]? = some f) : writeG (A.take (k + 1)) = writeG (A.take k) ++ tokG f := by
  unfold writeG
  rw [List.take_add_one, h, List.flatMap_append]; simp
theorem attrsW_take_len {A : List AtL} (h : ∀ a ∈ A, a.1.length ≤ 300 ∧ a.2.length ≤ 300) (k : Nat) : (attrsW (escQ true) (A.take k)).length ≤ 2104 * A.length := by
  have h1 := attrsW_len (A := A.take k) (fun a ha => h a (List.mem_of_mem_take ha))
  have h2 : (A.take k).length ≤ A.length := by rw [List.length_take]; exact Nat.min_le_right _ _
  exact Nat.le_trans h1 (Nat.mul_le_mul_left _ h2)
set_option maxHeartbeats 8000000 in
theorem writeStart_any (b : Nat) (x : List UInt8) (K : Int) (N T : List UInt8) (A : List AtL) (d : Option Addr) (y : Nat) (W0 w : World) (h : Bld W0.heap.size b x W0 w) (ha : AttrsIn W0 (.slice d A.length y) A)
    (hN : N.length ≤ 300) (hA : A.length ≤ 40) (hf : ∀ a ∈ A, a.1.length ≤ 300 ∧ a.2.length ≤ 300) (hE : EnvX W0) (hx : x.length ≤ 1099511627776) :
    Calls Tryz.prog 85 #[.pointer (some ⟨b, 0, none⟩), .agg #[.int .i64 K, .string (str N), .slice d A.length y, .string (str T)]] w fun e w' => e = .returned (.tuple #[]) ∧ Bld W0.heap.size b (x ++ 60 :: (N ++ (attrsW (escQ true) A ++ [62]))) W0 w' := by
  obtain ⟨n, hn⟩ : ∃ n, A.length = n := ⟨_, rfl⟩
  obtain ⟨X, hX⟩ : ∃ X, X = str N := ⟨_, rfl⟩
  obtain ⟨Y, hY⟩ : ∃ Y, Y = str T := ⟨_, rfl⟩
  have zX : X.size ≤ 300 := by rw [hX, str_size]; exact hN
  have HXL : Hid (X.data.toList = N) := hide (by rw [hX, str_toList])
  rw [← hX, ← hY]
  have HA := hide ha
  have HF := hide hf
  have HE := hide hE
  have HXZ := hide hx
  have HNL := hide hn
  have HAL := hide hA
  have hn40 : n ≤ 40 := by omega
  rw [hn] at HA ⊢
  have hbx := h.kept (below_one' w (.cells #[.int .i64 K, .string X, .slice d n y, .string Y] 29))
  have HB := hide hbx
  have HBX := hide (alloc_new_block w (.cells #[.int .i64 K, .string X, .slice d n y, .string Y] 29))
  clear ha hf hE hx hn h hbx hX hY hA
  go_enter Tryz.func85, Tryz.ntmps85
  go_wp2_with fail
  refine (writeStringK_any _ _ x _ W0 _ HB.out (by rw [ByteArray.size_append]; have := HXZ.out; show _ + (1 + _) ≤ _; omega)).mono ?_
  rintro e w1 ⟨rfl, hb1, hk1⟩
  have HB1 := hide hb1
  have hc1 := hk1 _ _ _ _ HBX.out (by decide) (by decide)
  have k2 : w1.cell? ⟨w.heap.size, 2, none⟩ = some (.slice d n y) := by rw [Lib.cell_of_heap hc1]; rfl
  clear hb1 hk1 hc1
  go_wp2_with fail
  go_loopw [14] (fun i wr => ∃ k : Nat, k ≤ n ∧ i = .int .i64 k ∧ Hid (Bld W0.heap.size b (x ++ 60 :: (N ++ attrsW (escQ true) (A.take k))) W0 wr)) (fun i _ => n - (intOf i).toNat)
  case atStart => exact ⟨0, Nat.zero_le _, rfl, hide (by
    have h0 := HB1.out
    rw [toA_append, HXL.out] at h0
    rw [List.take_zero]
    simpa [attrsW] using h0)⟩
  case round =>
    obtain ⟨k, hk, rfl, HR⟩ := hrel
    by_cases hlt : k < n
    · obtain ⟨f, hf⟩ : ∃ f, A[k]? = some f := ⟨_, List.getElem?_eq_getElem (by have := HNL.out; omega)⟩
      obtain ⟨a, ha, hc1, hc2⟩ := (HA.out.kept HR.out.2.1).at k f hf
      subst ha
      obtain ⟨z1, z2⟩ := HF.out f (List.mem_of_getElem? hf)
      obtain ⟨P, hP⟩ : ∃ P, P = str f.1 := ⟨_, rfl⟩
      obtain ⟨V, hV⟩ : ∃ V, V = str f.2 := ⟨_, rfl⟩
      have zP : P.size ≤ 300 := by rw [hP, str_size]; exact z1
      have zV : V.size ≤ 300 := by rw [hV, str_size]; exact z2
      rw [← hP] at hc1
      rw [← hV] at hc2
      have hEV := fun w2 h => entValue_any V w2 (by omega) h
      obtain ⟨Q, hQ⟩ : ∃ Q, Q = str (escQ true V.data.toList) := ⟨_, rfl⟩
      have zQ : Q.size ≤ 1800 := by
        rw [hQ, str_size]
        have := esc_len true V.data.toList
        rw [toList_length] at this; omega
      rw [← hQ] at hEV
      have HEV := hide hEV
      have HEW : Hid (∀ w2, Below W0.heap.size W0 w2 → EnvX w2) := hide fun w2 h => HE.out.kept h
      have hxl : (x ++ 60 :: (N ++ attrsW (escQ true) (A.take k))).length ≤ 1099511727776 := by
        have := attrsW_take_len HF.out k
        have := HXZ.out
        have := HAL.out
        rw [List.length_append, List.length_cons, List.length_append]; omega
      have HXX := hide hxl
      have HNX : Hid (∀ z : ByteArray, z.data.toList = attrW (escQ true) f → x ++ 60 :: (N ++ attrsW (escQ true) (A.take k)) ++ z.data.toList = x ++ 60 :: (N ++ attrsW (escQ true) (A.take (k + 1)))) := hide fun z hz => by
        rw [hz, attrsW_take hf]; simp
      have HAW : Hid (P.data.toList = f.1 ∧ Q.data.toList = escQ true f.2) := hide ⟨by rw [hP, str_toList], by rw [hQ, hV, str_toList, str_toList]⟩
      have q1 : ¬ (9223372036854775807 < 1 + P.size) := by omega
      have q2 : ¬ (9223372036854775807 < 1 + P.size + 2) := by omega
      have q3 : ¬ (9223372036854775807 < 1 + P.size + 2 + Q.size) := by omega
      have q4 : ¬ (9223372036854775807 < 1 + P.size + 2 + Q.size + 1) := by omega
      clear hf hP hV hQ hEV z1 z2 hxl
      have HBA : Hid (Bld W0.heap.size b _ W0 (wr.alloc (.cells #[.string P, .string V] 32)).drew) := hide (HR.out.kept ((below_one' wr (.cells #[.string P, .string V] 32)).trans (Below.refl _ _).drew))
      have HAL2 : Hid (∀ w3, Below (wr.alloc (.cells #[.string P, .string V] 32)).drew.heap.size (wr.alloc (.cells #[.string P, .string V] 32)).drew w3 → w3.heap[wr.heap.size]? = some (.cells #[.string P, .string V] 32)) := hide fun w3 h => by
        rw [h.block wr.heap.size (by show wr.heap.size < (wr.alloc _).heap.size; rw [World.size_alloc]; exact Nat.lt_succ_self _)]
        exact alloc_new_block wr _
      go_wp2_with fail
      go_region_with (first
        | (go_at_call 126; refine (HEV.out _ (HEW.out _ HBA.out.2.1)).mono ?_; rintro e w3 ⟨rfl, hb3⟩; have HB3 := hide (HBA.out.kept hb3); have k7 := cell_of_row w3 wr.heap.size 0 _ _ _ (HAL2.out _ hb3); have k8 := cell_of_row w3 wr.heap.size 1 _ _ _ (HAL2.out _ hb3); clear hb3)
        | (go_at_call 45; refine (writeString_any _ _ _ _ W0 _ HB3.out (by simp only [ByteArray.size_append]; have := HXX.out; show _ + (1 + _ + 2 + _ + 1) ≤ _; omega)).mono ?_; rintro e w4 ⟨rfl, hb4⟩; have HB4 := hide hb4; clear hb4)
        | fail)
      all_goals
        have HB5 : Hid (Bld W0.heap.size b (x ++ 60 :: (N ++ attrsW (escQ true) (A.take (k + 1)))) W0 w4) := hide (by
          rw [← HNX.out ((⟨#[32]⟩ : ByteArray) ++ P ++ ⟨#[61, 34]⟩ ++ Q ++ ⟨#[34]⟩) (by simp only [toA_append, HAW.out.1, HAW.out.2]; unfold attrW; simp)]
          exact HB4.out)
        go_wp2_with fail
        go_roundw
        case rel => exact ⟨k + 1, by omega, by go_num, HB5⟩
        case measure => simp [intOf]; omega
    · have hk2 : k = n := by omega
      subst hk2
      have HL : Hid (x ++ 60 :: (N ++ attrsW (escQ true) (A.take k)) ++ [62] = x ++ 60 :: (N ++ (attrsW (escQ true) A ++ [62]))) := hide (by
        rw [List.take_of_length_le (by have := HNL.out; omega)]; simp)
      have hxl : (x ++ 60 :: (N ++ attrsW (escQ true) (A.take k))).length ≤ 1099511727776 := by
        have := attrsW_take_len HF.out k
        have := HXZ.out
        have := HAL.out
        rw [List.length_append, List.length_cons, List.length_append]; omega
      have HXX := hide hxl
      clear hxl
      go_wp2_with fail
      refine (writeString_any _ _ _ _ W0 _ HR.out (by have := HXX.out; show _ + 1 ≤ _; omega)).mono ?_
      rintro e w5 ⟨rfl, hb5⟩
      have HB5 := hide hb5
      clear hb5
      go_wp2_with fail
      go_end0
      exact ⟨rfl, by rw [← HL.out]; exact HB5.out⟩
set_option maxHeartbeats 8000000 in
/-- htok.Write of tokens that are given -/
theorem write_any13 (v : Value) (l : List TokG) (w : World) (h : ToksIn w v l) (hl : l.length ≤ 1000) (hf : ∀ p ∈ l, fitT p.2 = true) (hE : EnvX w) :
    Calls Tryz.prog 42 #[v] w fun e w' => e = .returned (.string (str (writeG l))) ∧ Below w.heap.size w w' := by
  obtain ⟨A, c, rfl⟩ := h.form
  obtain ⟨n, hn⟩ : ∃ n, l.length = n := ⟨_, rfl⟩
  have H := hide h
  have HF := hide hf
  have HE := hide hE
  have HNL := hide hn
  have HN0 := hide (Bld.new (w := w) (W0 := w) (B := w.heap.size) (Below.refl _ _) (Nat.le_refl _))
  rw [hn] at H hl ⊢
  clear h hf hE hn
  go_enter Tryz.func42, Tryz.ntmps42
  go_wp2_with fail
  go_loopw [8] (fun i wr => ∃ k : Nat, k ≤ n ∧ i = .int .i64 k ∧ Hid (Bld w.heap.size w.heap.size (writeG (l.take k)) w wr)) (fun i _ => n - (intOf i).toNat)
  case atStart => exact ⟨0, Nat.zero_le _, rfl, hide (by rw [List.take_zero]; exact HN0.out)⟩
  case round =>
    obtain ⟨k, hk, rfl, HR⟩ := hrel
    by_cases hlt : k < n
    · obtain ⟨f, hf⟩ : ∃ f, l[k]? = some f := ⟨_, List.getElem?_eq_getElem (by have := HNL.out; omega)⟩
      obtain ⟨a, d, y, ha, c1, c2, c3, c4, hA⟩ := (H.out.kept HR.out.2.1).at k f hf
      obtain ⟨a0, d0, y0, ha0, _, _, _, c40, hA0⟩ := H.out.at k f hf
      subst ha
      have hdy : AttrsIn w (.slice d f.2.attrs.length y) f.2.attrs := by
        injection ha0 with ha0
        subst ha0
        have e := (HR.out.2.1.cell (World.block_lt_of_cell? _ _ c40)).trans c40
        rw [c4] at e
        injection e with e
        rw [e]; exact hA0
      obtain ⟨z1, z2, z3, z4⟩ := fitT_len (HF.out f (List.mem_of_getElem? hf))
      have hwl : (writeG (l.take k)).length ≤ 84500000 := by
        have h1 := writeG_len (l := l.take k) (fun p hp => HF.out p (List.mem_of_mem_take hp))
        have h2 : (l.take k).length ≤ n := by rw [List.length_take, HNL.out]; exact Nat.min_le_right _ _
        omega
      have HNX : Hid (∀ z, z = tokG f → writeG (l.take k) ++ z = writeG (l.take (k + 1))) := hide fun z hz => by rw [hz, writeG_take hf]
      have HNO : Hid (tokG f = [] → writeG (l.take k) = writeG (l.take (k + 1))) := hide fun hz => by rw [writeG_take hf, hz, List.append_nil]
      have HEW : Hid (∀ w2, Below w.heap.size w w2 → EnvX w2) := hide fun w2 h => HE.out.kept h
      obtain ⟨X, hX⟩ : ∃ X, X = str f.2.name := ⟨_, rfl⟩
      obtain ⟨Y, hY⟩ : ∃ X, X = str f.2.text := ⟨_, rfl⟩
      have zX : X.size ≤ 300 := by rw [hX, str_size]; exact z1
      have zY : Y.size ≤ 300 := by rw [hY, str_size]; exact z2
      have HXL : Hid (X.data.toList = f.2.name) := hide (by rw [hX, str_toList])
      have HYL : Hid (Y.data.toList = f.2.text) := hide (by rw [hY, str_toList])
      obtain ⟨kf, hkf⟩ : ∃ z : Int, z = f.1 := ⟨_, rfl⟩
      rw [← hkf] at c1
      have HWS := hide (fun w2 (h2 : Bld w.heap.size w.heap.size (writeG (l.take k)) w w2) => writeStart_any w.heap.size (writeG (l.take k)) kf f.2.name f.2.text f.2.attrs d y w w2 h2 hdy z1 z3 z4 HE.out (by omega))
      rw [← hX, ← hY] at HWS
      rw [← hX] at c2
      rw [← hY] at c3
      obtain ⟨m, hm⟩ : ∃ m, f.2.attrs.length = m := ⟨_, rfl⟩
      rw [hm] at c4 HWS
      have HBA := hide (HR.out.kept (below_one' wr (.cells #[.int .i64 kf, .string X, .slice d m y, .string Y] 29)))
      have HWL := hide hwl
      clear hf ha0 c40 hA0 hA hdy z1 z2 z3 z4 hwl hX hY hm
      by_cases k1 : kf = 1
      · have s1 : (kf == 1) = true := by rw [k1]; rfl
        have HT := hide (entText_any Y (wr.alloc (.cells #[.int .i64 kf, .string X, .slice d m y, .string Y] 29)) (by omega))
        obtain ⟨Q, hQ⟩ : ∃ Q, Q = str (escQ false Y.data.toList) := ⟨_, rfl⟩
        have zQ : Q.size ≤ 1800 := by
          rw [hQ, str_size]
          have := esc_len false Y.data.toList
          rw [toList_length] at this; omega
        rw [← hQ] at HT
        have HQL : Hid (Q.data.toList = tokG f) := hide (by rw [hQ, str_toList, HYL.out, tokG_chars (by rw [← hkf]; exact k1)])
        clear hQ hkf
        subst k1
        go_wp2_with fail
        refine HT.out.mono ?_
        rintro e w2 ⟨rfl, hb2⟩
        have HB2 := hide (HBA.out.kept hb2)
        clear hb2
        go_wp2_with fail
        refine (writeString_any _ _ _ Q w _ HB2.out (by have := HWL.out; omega)).mono ?_
        rintro e w3 ⟨rfl, hb3⟩
        have HB3 := hide hb3
        clear hb3
        go_wp2_with fail
        go_roundw
        case rel => exact ⟨k + 1, by omega, by go_num, hide (by rw [← HNX.out _ HQL.out]; exact HB3.out)⟩
        case measure => simp [intOf]; omega
      have s1 : (kf == 1) = false := beq_eq_false_iff_ne.2 k1
      by_cases k2 : kf = 2
      · have s2 : (kf == 2) = true := by rw [k2]; rfl
        have HTG : Hid (60 :: (f.2.name ++ (attrsW (escQ true) f.2.attrs ++ [62])) = tokG f) := hide (tokG_start (by rw [← hkf]; exact k2)).symm
        clear hkf
        subst k2
        go_wp2_with fail
        refine (HWS.out _ HBA.out).mono ?_
        rintro e w3 ⟨rfl, hb3⟩
        have HB3 := hide hb3
        clear hb3
        go_wp2_with fail
        go_roundw
        case rel => exact ⟨k + 1, by omega, by go_num, hide (by rw [← HNX.out _ HTG.out]; exact HB3.out)⟩
        case measure => simp [intOf]; omega
      have s2 : (kf == 2) = false := beq_eq_false_iff_ne.2 k2
      by_cases k3 : kf = 3
      · have s3 : (kf == 3) = true := by rw [k3]; rfl
        have HTG : Hid (60 :: 47 :: (f.2.name ++ [62]) = tokG f) := hide (tokG_end (by rw [← hkf]; exact k3)).symm
        clear hkf
        subst k3
        go_wp2_with fail
        refine (writeString_any _ _ _ _ w _ HBA.out (by simp only [ByteArray.size_append]; have := HWL.out; show _ + (2 + _ + 1) ≤ _; omega)).mono ?_
        rintro e w3 ⟨rfl, hb3⟩
        have HB3 := hide hb3
        clear hb3
        go_wp2_with fail
        go_roundw
        case rel => exact ⟨k + 1, by omega, by go_num, hide (by
          have h := HB3.out
          rw [toA_append, toA_append, HXL.out] at h
          rw [← HNX.out _ HTG.out]
          simpa using h)⟩
        case measure => simp [intOf]; omega
      have s3 : (kf == 3) = false := beq_eq_false_iff_ne.2 k3
      have HTG := hide (HNO.out (tokG_none (by rw [← hkf]; exact k1) (by rw [← hkf]; exact k2) (by rw [← hkf]; exact k3)))
      clear hkf k1 k2 k3
      go_wp2_with fail
      go_roundw
      case rel => exact ⟨k + 1, by omega, by go_num, hide (by rw [← HTG.out]; exact HBA.out)⟩
      case measure => simp [intOf]; omega
    · have hk2 : k = n := by omega
      subst hk2
      have HL : Hid (writeG (l.take k) = writeG l) := hide (by rw [List.take_of_length_le (by have := HNL.out; omega)])
      rw [HL.out] at HR
      go_wp2_with fail
      refine HR.out.string.mono ?_
      rintro e w5 ⟨rfl, hb5⟩
      have HB5 := hide hb5
      clear hb5
      go_wp2_with fail
      go_ret
      exact ⟨rfl, HB5.out⟩
end Go.Proofs.YtgokefodmjhhiaaGreatDoor

/- WALK of ser.Write. No statement is proved here. Own work of the verifier. -/
namespace Go.Proofs.YtgokefodmjhhiaaGreatDoor
open Go.RowKit
set_option linter.unusedVariables false
set_option linter.unusedSimpArgs false
set_option maxRecDepth 100000
/-! ### the written document, as pure data -/
def startW (h : NdH) : List UInt8 := 60 :: (h.name ++ (attrsW (escQ true) h.attrs ++ [62]))
def endW (h : NdH) : List UInt8 := 60 :: 47 :: (h.name ++ [62])
/-- the texts of a raw element -/
def rawK : Tr → List UInt8
  | .nil => []
  | .cons h _ R => (if h.name = [] then h.text else []) ++ rawK R
def rawB (n : List UInt8) : Bool := rawL.contains n
def serBg (s : List UInt8) (h : NdH) (K : Tr) : List UInt8 :=
  if h.name = [] then s ++ escQ false h.text else if voidB h.name = true then s ++ startW h else if rawB h.name = true then s ++ startW h ++ rawK K else s ++ startW h
def serEn (s : List UInt8) (h : NdH) : List UInt8 := if h.name = [] then s else if voidB h.name = true then s else s ++ endW h
def serDv (h : NdH) : Bool := elemB h && (!voidB h.name && !rawB h.name)
def writeT : Tr → List UInt8
  | .nil => []
  | .cons h K R => (if h.name = [] then escQ false h.text else if voidB h.name = true then startW h else startW h ++ ((if rawB h.name = true then rawK K else writeT K) ++ endW h)) ++ writeT R
theorem vis_write (T : Tr) (s : List UInt8) : vis serBg serEn serDv T s = s ++ writeT T := by
  induction T generalizing s with
  | nil => simp [vis, writeT]
  | cons h K R ihk ihr =>
    simp only [vis, writeT]
    by_cases hn : h.name = []
    · have e : serDv h = false := by simp [serDv, elemB, hn]
      simp [serBg, serEn, hn, e, ihr]
    · have e0 : elemB h = true := by simp [elemB, hn]
      by_cases hv : voidB h.name = true
      · have e : serDv h = false := by simp [serDv, hv]
        simp [serBg, serEn, hn, hv, e, ihr]
      · by_cases hr : rawB h.name = true
        · have e : serDv h = false := by simp [serDv, hr]
          simp [serBg, serEn, hn, hv, hr, e, ihr]
        · have e : serDv h = true := by simp [serDv, e0, hv, hr]
          simp [serBg, serEn, hn, hv, hr, e, ihk, ihr]
theorem serBg_le (s : List UInt8) (h : NdH) (K : Tr) : s.length ≤ (serBg s h K).length := by
  unfold serBg; repeat' split
  all_goals simp only [List.length_append]; omega
theorem serEn_le (s : List UInt8) (h : NdH) : s.length ≤ (serEn s h).length := by
  unfold serEn; repeat' split
  all_goals first | exact Nat.le_refl _ | (simp only [List.length_append]; omega)
/-- a node that a document writes as the laws' small trees have it -/
def smallH (h : NdH) : Bool := fitT ⟨0, h.name, h.attrs, h.text⟩
theorem small_tok {h : NdH} (hs : smallH h = true) : fitT ⟨0, h.name, h.attrs, []⟩ = true := by
  unfold smallH fitT at *
  simp only [Bool.and_eq_true, decide_eq_true_eq] at *
  exact ⟨hs.1, Nat.zero_le _, hs.2.2⟩
theorem tok_one (w : World) (k : Int) (h : NdH) (u : Value) (hA : AttrsIn w u h.attrs) (n : Nat) (hn : w.heap.size = n) :
    ToksIn (w.alloc (.cells #[.int .i64 k, .string (str h.name), u, .string ⟨#[]⟩] 29)) (.slice (some ⟨n, 0, none⟩) 1 1) [(k, ⟨0, h.name, h.attrs, []⟩)] := by
  subst hn
  obtain ⟨c0, c1, c2, c3⟩ := tok_row w (.int .i64 k) (.string (str h.name)) u (.string ⟨#[]⟩)
  refine .inr ⟨⟨w.heap.size, 0, none⟩, 1, rfl, Nat.le_refl _, by decide, fun j f hj => ?_⟩
  match j, hj with
  | 0, hj =>
    simp only [List.getElem?_cons_zero, Option.some.injEq] at hj
    subst hj
    exact ⟨c0, c1, c3, u, c2, hA.kept (below_one w _)⟩
  | j + 1, hj => simp at hj
set_option maxHeartbeats 8000000 in
theorem tag_any (k : Int) (h : NdH) (w : World) (hk : k = 2 ∨ k = 3) (A1 A2 : Option Addr) (n2 c1 c2 : Nat) (hA : AttrsIn w (.slice A1 h.attrs.length c1) h.attrs) (hs : smallH h = true) (hE : EnvX w) :
    Calls Tryz.prog 122 #[.int .i64 k, .agg #[.string (str h.name), .slice A1 h.attrs.length c1, .string (str h.text), .slice A2 n2 c2]] w fun e w' => e = .returned (.string (str (if k = 2 then startW h else endW h))) ∧ Below w.heap.size w w' := by
  have hbk := below_one w (Obj.cells #[.string (str h.name), .slice A1 h.attrs.length c1, .string (str h.text), .slice A2 n2 c2] 41)
  have hti := tok_one (w.alloc (Obj.cells #[.string (str h.name), .slice A1 h.attrs.length c1, .string (str h.text), .slice A2 n2 c2] 41)) k h _ (hA.kept hbk) (w.heap.size + 1) (World.size_alloc _ _)
  have hb2 := bl_one hbk (below_one _ (Obj.cells #[.int .i64 k, .string (str h.name), .slice A1 h.attrs.length c1, .string ⟨#[]⟩] 29))
  have HW := write_any13 _ _ _ hti (by simp) (fun p hp => by rw [List.mem_singleton.1 hp]; exact small_tok hs) (hE.kept hb2)
  have he : writeG [(k, (⟨0, h.name, h.attrs, []⟩ : TokL))] = if k = 2 then startW h else endW h := by
    have e1 : writeG [(k, (⟨0, h.name, h.attrs, []⟩ : TokL))] = tokG (k, ⟨0, h.name, h.attrs, []⟩) := by simp [writeG]
    rw [e1]
    rcases hk with rfl | rfl
    · rw [if_pos rfl]; exact tokG_start rfl
    · rw [if_neg (by decide)]; exact tokG_end rfl
  rw [he] at HW
  obtain ⟨R, hR⟩ : ∃ R, R = str (if k = 2 then startW h else endW h) := ⟨_, rfl⟩
  rw [← hR] at HW ⊢
  replace HW := hide HW
  have HB2 := hide hb2
  clear hbk hti hb2 he hA hE hR hk
  go_enter Tryz.func122, Tryz.ntmps122
  go_wp2_with fail
  refine HW.out.mono ?_
  rintro e w1 ⟨rfl, hb⟩
  have HB := hide (bl_one HB2.out hb)
  clear hb
  go_wp2_with fail
  go_ret
  exact ⟨rfl, HB.out⟩
set_option maxHeartbeats 8000000 in
/-- end -/
theorem serEnd_any (B b : Nat) (s : List UInt8) (h : NdH) (W0 w : World) (A1 A2 : Option Addr) (n2 c1 c2 : Nat) (hi : Bld B b s W0 w) (hA : AttrsIn w (.slice A1 h.attrs.length c1) h.attrs) (hs : smallH h = true) (hE : EnvX w) (hm : (serEn s h).length ≤ 1000000000) :
    Calls Tryz.prog 80 #[.pointer (some ⟨b, 0, none⟩), .agg #[.string (str h.name), .slice A1 h.attrs.length c1, .string (str h.text), .slice A2 n2 c2]] w fun e w' => e = .returned (.tuple #[]) ∧ Bld B b (serEn s h) W0 w' ∧ KT w w' := by
  have hbk := below_one w (Obj.cells #[.string (str h.name), .slice A1 h.attrs.length c1, .string (str h.text), .slice A2 n2 c2] 41)
  have HIT := hide (isText_any h A1 A2 h.attrs.length c1 n2 c2 (w.alloc (Obj.cells #[.string (str h.name), .slice A1 h.attrs.length c1, .string (str h.text), .slice A2 n2 c2] 41)))
  have HTG : Hid (∀ w', Below w.heap.size w w' → Calls Tryz.prog 122 #[.int .i64 3, .agg #[.string (str h.name), .slice A1 h.attrs.length c1, .string (str h.text), .slice A2 n2 c2]] w' fun e w'' => e = .returned (.string (str (endW h))) ∧ Below w'.heap.size w' w'') := hide (fun w' hb => by
    have := tag_any 3 h w' (.inr rfl) A1 A2 n2 c1 c2 (hA.kept hb) hs (hE.kept hb)
    rwa [if_neg (by decide)] at this)
  have HVD : Hid (∀ w', Calls Tryz.prog 32 #[.string (str h.name)] w' fun e w'' => e = .returned (.bool (voidB h.name)) ∧ w' = w'') := hide (fun w' => by
    have := void14_any (str h.name) w'
    rw [str_toList] at this
    exact this)
  have HWS : Hid (∀ w', Below w.heap.size w w' → s.length + (endW h).length ≤ 1000000000 → Calls Tryz.prog 45 #[.pointer (some ⟨b, 0, none⟩), .string (str (endW h))] w' fun e w'' => e = .returned (.tuple #[.int .i64 (str (endW h)).size, .nilIface]) ∧ Bld B b (s ++ endW h) W0 w'' ∧ KT w w'') := hide (fun w' hb hl => by
    refine (writeStringT_any B b s (str (endW h)) W0 w' (hi.kept hb) (by rw [str_size]; omega)).mono ?_
    rintro e w2 ⟨rfl, h2, h3⟩
    rw [str_toList] at h2
    exact ⟨rfl, h2, (KT.below hb).trans h3⟩)
  have HI := hide hi
  have HM := hide hm
  have HBK := hide hbk
  obtain ⟨X, hX⟩ : ∃ X, X = str h.name := ⟨_, rfl⟩
  obtain ⟨Y, hY⟩ : ∃ Y, Y = str h.text := ⟨_, rfl⟩
  obtain ⟨E, hEE⟩ : ∃ E, E = str (endW h) := ⟨_, rfl⟩
  obtain ⟨W, hW⟩ : ∃ W, W = w.alloc (Obj.cells #[.string X, .slice A1 h.attrs.length c1, .string Y, .slice A2 n2 c2] 41) := ⟨_, rfl⟩
  have hcell : W.heap[w.heap.size]? = some (Obj.cells #[.string X, .slice A1 h.attrs.length c1, .string Y, .slice A2 n2 c2] 41 (0, 0)) := by rw [hW]; exact heap_alloc_new w _
  have hlt : w.heap.size < W.heap.size := by rw [hW, World.size_alloc]; omega
  rw [← hX, ← hY] at HIT HTG HBK ⊢
  rw [← hX] at HVD
  rw [← hEE] at HTG HWS
  rw [← hW] at HIT HBK
  have HCC := hide hcell
  have HLT := hide hlt
  have HWW := hide hW
  clear hi hm hA hs hE hbk hX hY hEE hcell hlt hW
  go_enter Tryz.func80, Tryz.ntmps80
  go_wp2_with fail
  rw [← HWW.out]
  refine HIT.out.mono ?_
  rintro e w1 ⟨rfl, hb1⟩
  have hcell := (hb1.block w.heap.size HLT.out).trans HCC.out
  have d0 : w1.cell? ⟨w.heap.size, 0, none⟩ = some (.string X) := (Lib.cell_of_heap hcell 0).trans rfl
  have d1 : w1.cell? ⟨w.heap.size, 1, none⟩ = some (.slice A1 h.attrs.length c1) := (Lib.cell_of_heap hcell 1).trans rfl
  have d2 : w1.cell? ⟨w.heap.size, 2, none⟩ = some (.string Y) := (Lib.cell_of_heap hcell 2).trans rfl
  have d3 : w1.cell? ⟨w.heap.size, 3, none⟩ = some (.slice A2 n2 c2) := (Lib.cell_of_heap hcell 3).trans rfl
  have HB1 := hide (bl_one HBK.out hb1)
  clear hcell hb1
  by_cases e : elemB h = false
  · rw [e]
    have hn : h.name = [] := by simpa [elemB] using e
    have HS : Hid (serEn s h = s) := hide (by simp [serEn, hn])
    clear hn e
    go_wp2_with fail
    go_end0
    exact ⟨rfl, by rw [HS.out]; exact HI.out.kept HB1.out, KT.below HB1.out⟩
  · replace e : elemB h = true := by simpa using e
    rw [e]
    have hn : h.name ≠ [] := by simpa [elemB] using e
    by_cases v : voidB h.name = true
    · have HS : Hid (serEn s h = s) := hide (by simp [serEn, hn, v])
      rw [v] at HVD
      clear hn e v
      go_wp2_with (go_at_call 32; refine (HVD.out _).mono ?_; rintro e w5 ⟨rfl, hw5⟩; subst hw5)
      go_end0
      exact ⟨rfl, by rw [HS.out]; exact HI.out.kept HB1.out, KT.below HB1.out⟩
    · have v0 : voidB h.name = false := by simpa using v
      have HS : Hid (serEn s h = s ++ endW h) := hide (by simp [serEn, hn, v0])
      rw [v0] at HVD
      clear hn e v v0
      go_wp2_with (go_at_call 32; refine (HVD.out _).mono ?_; rintro e w5 ⟨rfl, hw5⟩; subst hw5)
      refine (HTG.out _ HB1.out).mono ?_
      rintro e w3 ⟨rfl, hb3⟩
      have HB3 := hide (bl_one HB1.out hb3)
      clear hb3
      go_wp2_with fail
      refine (HWS.out _ HB3.out (by have := HM.out; rw [HS.out, List.length_append] at this; exact this)).mono ?_
      rintro e w4 ⟨rfl, h4⟩
      have H4 := hide h4
      clear h4
      go_wp2_with fail
      go_end0
      exact ⟨rfl, by rw [HS.out]; exact H4.out.1, H4.out.2⟩
/-! ### writeRaw -/
def rawKl : List (NdH × Tr) → List UInt8
  | [] => []
  | p :: r => (if p.1.name = [] then p.1.text else []) ++ rawKl r
theorem rawK_list (T : Tr) : rawK T = rawKl T.list := by induction T with
  | nil => rfl
  | cons h K R _ ih => simp only [rawK, Tr.list, rawKl, ih]
theorem rawKl_snoc (l : List (NdH × Tr)) (p : NdH × Tr) : rawKl (l ++ [p]) = rawKl l ++ (if p.1.name = [] then p.1.text else []) := by induction l with
  | nil => simp [rawKl]
  | cons q r ih => simp only [List.cons_append, rawKl, ih, List.append_assoc]
theorem rawKl_le (l : List (NdH × Tr)) (k : Nat) : (rawKl (l.take k)).length ≤ (rawKl l).length := by induction l generalizing k with
  | nil => simp
  | cons p r ih => cases k with
    | zero => simp [rawKl]
    | succ k => simp only [List.take_succ_cons, rawKl, List.length_append]; have := ih k; omega
set_option maxHeartbeats 8000000 in
theorem writeRaw_any (B b : Nat) (s : List UInt8) (W0 w : World) (v : Value) (T : Tr) (hi : Bld B b s W0 w) (hT : NodesC (fun b => b < B) w v T) (hn : T.len ≤ 1000000) (hm : (s ++ rawK T).length ≤ 1000000000) :
    Calls Tryz.prog 123 #[.pointer (some ⟨b, 0, none⟩), v] w fun e w' => e = .returned (.tuple #[]) ∧ Bld B b (s ++ rawK T) W0 w' ∧ KT w w' := by
  obtain ⟨A, c, rfl⟩ := hT.form
  rw [rawK_list] at hm ⊢
  have HT := hide hT
  have HM := hide hm
  have HI := hide hi
  clear hT hm hi
  go_enter Tryz.func123, Tryz.ntmps123
  go_wp2_with fail
  go_loopw [8] (fun i wr => ∃ k : Nat, k ≤ T.len ∧ i = .int .i64 k ∧ Hid (Bld B b (s ++ rawKl (T.list.take k)) w wr) ∧ Hid (KT w wr)) (fun i _ => T.len - (intOf i).toNat)
  case atStart => exact ⟨0, Nat.zero_le _, rfl, hide (by rw [List.take_zero, rawKl, List.append_nil]; exact ⟨HI.out.1, Below.refl _ _, HI.out.2.2⟩), hide (KT.refl _)⟩
  case round =>
    obtain ⟨k, hk, rfl, HB, HK⟩ := hrel
    by_cases hlt : k < T.len
    · obtain ⟨⟨f, K⟩, hf⟩ : ∃ f, T.list[k]? = some f := ⟨_, List.getElem?_eq_getElem (by rw [Tr.len_list]; exact hlt)⟩
      have hI1 := NodesC.mono HT.out (same_below HB.out.2.1) (fun _ x => x)
      obtain ⟨a, d, x, y, z, m, ha, -, p1, p2, hA, p3, p4, hm, hK⟩ := NodesC.at hI1 k f K hf
      subst ha hm
      have hsn : rawKl (T.list.take (k + 1)) = rawKl (T.list.take k) ++ (if f.name = [] then f.text else []) := by rw [List.take_add_one, hf]; exact rawKl_snoc _ _
      have hle := rawKl_le T.list (k + 1)
      have HSN := hide hsn
      have HLE := hide hle
      clear hsn hle hA hK hI1 hf
      go_wp2_with fail
      refine (isText_any f d x _ _ _ _ _).mono ?_
      rintro e w1 ⟨rfl, hb1⟩
      have hb := bl_one (below_one wr _) hb1
      have hcell := (hb1.block wr.heap.size (by rw [World.size_alloc]; omega)).trans (heap_alloc_new wr _)
      have d2 : w1.cell? ⟨wr.heap.size, 2, none⟩ = some (.string (str f.text)) := (Lib.cell_of_heap hcell 2).trans rfl
      obtain ⟨Y, hY⟩ : ∃ Y, Y = str f.text := ⟨_, rfl⟩
      have hYl : Y.data.toList = f.text := by rw [hY, str_toList]
      rw [← hY] at d2
      obtain ⟨X, hX⟩ : ∃ X, X = str f.name := ⟨_, rfl⟩
      rw [← hY, ← hX]
      have HB1 := hide (HB.out.kept hb)
      have HK1 := hide (HK.out.trans (KT.below hb))
      clear hcell hb1 hb hX hY
      by_cases e : elemB f = false
      · rw [e]
        have hn : f.name = [] := by simpa [elemB] using e
        have hsn := HSN.out
        rw [if_pos hn] at hsn
        have hl : (s ++ rawKl (T.list.take k)).length + Y.size ≤ 140737488355328 := by
          have h1 := HLE.out
          have h2 := HM.out
          rw [hsn, List.length_append, ← hYl, toList_length] at h1
          rw [List.length_append] at h2
          rw [List.length_append]; omega
        have HWS := hide (writeStringT_any B b (s ++ rawKl (T.list.take k)) Y w w1 HB1.out hl)
        rw [hYl, List.append_assoc, ← hsn] at HWS
        clear hn e hsn hl hYl HSN HLE
        go_wp2_with fail
        refine HWS.out.mono ?_
        rintro e w2 ⟨rfl, hb2, hk2⟩
        have HB2 := hide hb2
        have HK2 := hide (HK1.out.trans hk2)
        clear hb2 hk2
        go_wp2_with fail
        go_roundw
        case rel => exact ⟨k + 1, by omega, by go_num, HB2, HK2⟩
        case measure => simp [intOf]; omega
      · replace e : elemB f = true := by simpa using e
        rw [e]
        have hn : f.name ≠ [] := by simpa [elemB] using e
        have hsn := HSN.out
        rw [if_neg hn, List.append_nil] at hsn
        rw [← hsn] at HB1
        clear hn e hsn hYl HSN HLE
        go_wp2_with fail
        go_roundw
        case rel => exact ⟨k + 1, by omega, by go_num, HB1, HK1⟩
        case measure => simp [intOf]; omega
    · obtain rfl : k = T.len := by omega
      have HB2 := HB.out
      rw [← Tr.len_list, List.take_length] at HB2
      replace HB2 := hide HB2
      go_wp2_with fail
      go_end0
      exact ⟨rfl, ⟨HB2.out.1, HI.out.2.1.trans HB2.out.2.1, HB2.out.2.2⟩, HK.out⟩
set_option maxHeartbeats 8000000 in
/-- begin -/
theorem serBegin_any (B b : Nat) (s : List UInt8) (h : NdH) (K : Tr) (W0 w : World) (A1 A2 : Option Addr) (n2 c1 c2 : Nat) (hi : Bld B b s W0 w) (hA : AttrsIn w (.slice A1 h.attrs.length c1) h.attrs) (hK : NodesC (fun b => b < B) w (.slice A2 n2 c2) K) (hkl : K.len ≤ 1000000) (hs : smallH h = true) (hE : EnvX w) (hm : (serBg s h K).length ≤ 1000000000) :
    Calls Tryz.prog 78 #[.pointer (some ⟨b, 0, none⟩), .agg #[.string (str h.name), .slice A1 h.attrs.length c1, .string (str h.text), .slice A2 n2 c2]] w fun e w' => e = .returned (if serDv h = true then .slice A2 n2 c2 else .slice none 0 0) ∧ Bld B b (serBg s h K) W0 w' ∧ KT w w' := by
  have hbk := below_one w (Obj.cells #[.string (str h.name), .slice A1 h.attrs.length c1, .string (str h.text), .slice A2 n2 c2] 41)
  have HIT := hide (isText_any h A1 A2 h.attrs.length c1 n2 c2 (w.alloc (Obj.cells #[.string (str h.name), .slice A1 h.attrs.length c1, .string (str h.text), .slice A2 n2 c2] 41)))
  have HTG : Hid (∀ w', Below w.heap.size w w' → Calls Tryz.prog 122 #[.int .i64 2, .agg #[.string (str h.name), .slice A1 h.attrs.length c1, .string (str h.text), .slice A2 n2 c2]] w' fun e w'' => e = .returned (.string (str (startW h))) ∧ Below w'.heap.size w' w'') := hide (fun w' hb => by
    have := tag_any 2 h w' (.inl rfl) A1 A2 n2 c1 c2 (hA.kept hb) hs (hE.kept hb)
    rwa [if_pos rfl] at this)
  have HVD : Hid (∀ w', Calls Tryz.prog 32 #[.string (str h.name)] w' fun e w'' => e = .returned (.bool (voidB h.name)) ∧ w' = w'') := hide (fun w' => by
    have := void14_any (str h.name) w'
    rw [str_toList] at this
    exact this)
  have HRW : Hid (∀ w', Calls Tryz.prog 19 #[.string (str h.name)] w' fun e w'' => e = .returned (.bool (rawB h.name)) ∧ w' = w'') := hide (fun w' => by
    have := rawW_any (str h.name) w'
    rw [str_toList] at this
    exact this)
  have HTX : Hid (∀ w', Below w.heap.size w w' → Calls Tryz.prog 84 #[.string (str h.text)] w' fun e w'' => e = .returned (.string (str (escQ false h.text))) ∧ Below w'.heap.size w' w'') := hide (fun w' hb => by
    have := entText_any (str h.text) w' (by
      have h2 := hs
      unfold smallH fitT at h2
      simp only [Bool.and_eq_true, decide_eq_true_eq] at h2
      rw [str_size]; omega)
    rw [str_toList] at this
    exact this)
  have HWS : Hid (∀ (x : List UInt8) w', Below w.heap.size w w' → s.length + x.length ≤ 1000000000 → Calls Tryz.prog 45 #[.pointer (some ⟨b, 0, none⟩), .string (str x)] w' fun e w'' => e = .returned (.tuple #[.int .i64 (str x).size, .nilIface]) ∧ Bld B b (s ++ x) w w'' ∧ KT w' w'') := hide (fun x w' hb hl => by
    have hi2 := hi.kept hb
    refine (writeStringT_any B b s (str x) w w' ⟨hi2.1, hb.mono hi.2.2, hi2.2.2⟩ (by rw [str_size]; omega)).mono ?_
    rintro e w2 ⟨rfl, h2, h3⟩
    rw [str_toList] at h2
    exact ⟨rfl, h2, h3⟩)
  have HWR : Hid (∀ (x : List UInt8) w', Bld B b x w w' → (x ++ rawK K).length ≤ 1000000000 → Calls Tryz.prog 123 #[.pointer (some ⟨b, 0, none⟩), .slice A2 n2 c2] w' fun e w'' => e = .returned (.tuple #[]) ∧ Bld B b (x ++ rawK K) w w'' ∧ KT w' w'') := hide (fun x w' hb hl =>
    writeRaw_any B b x w w' _ K hb (NodesC.mono hK (same_below hb.2.1) (fun _ z => z)) hkl hl)
  have HI := hide hi
  have HM := hide hm
  have HBK := hide hbk
  obtain ⟨X, hX⟩ : ∃ X, X = str h.name := ⟨_, rfl⟩
  obtain ⟨Y, hY⟩ : ∃ Y, Y = str h.text := ⟨_, rfl⟩
  obtain ⟨S, hS⟩ : ∃ S, S = str (startW h) := ⟨_, rfl⟩
  obtain ⟨Q, hQ⟩ : ∃ Q, Q = str (escQ false h.text) := ⟨_, rfl⟩
  obtain ⟨R, hR⟩ : ∃ R, R = (if serDv h = true then Value.slice A2 n2 c2 else .slice none 0 0) := ⟨_, rfl⟩
  obtain ⟨W, hW⟩ : ∃ W, W = w.alloc (Obj.cells #[.string X, .slice A1 h.attrs.length c1, .string Y, .slice A2 n2 c2] 41) := ⟨_, rfl⟩
  have hcell : W.heap[w.heap.size]? = some (Obj.cells #[.string X, .slice A1 h.attrs.length c1, .string Y, .slice A2 n2 c2] 41 (0, 0)) := by rw [hW]; exact heap_alloc_new w _
  have hlt : w.heap.size < W.heap.size := by rw [hW, World.size_alloc]; omega
  rw [← hR]
  rw [← hX, ← hY] at HIT HTG HBK
  rw [← hX, ← hY]
  rw [← hX] at HVD HRW
  rw [← hY, ← hQ] at HTX
  rw [← hS] at HTG
  rw [← hW] at HIT HBK
  have HWS1 := hide (HWS.out (startW h))
  have HWS2 := hide (HWS.out (escQ false h.text))
  rw [← hS] at HWS1
  rw [← hQ] at HWS2
  have HCC := hide hcell
  have HLT := hide hlt
  have HWW := hide hW
  have HRR := hide hR
  clear hi hm hA hs hE hbk hX hY hS hQ hcell hlt hW hR HWS hK hkl
  go_enter Tryz.func78, Tryz.ntmps78
  go_wp2_with fail
  rw [← HWW.out]
  refine HIT.out.mono ?_
  rintro e w1 ⟨rfl, hb1⟩
  have hk1 := KT.below hb1
  have hcell := (hk1 _ _ _ _ HCC.out (by decide) (by decide)).trans HCC.out
  have d0 : w1.cell? ⟨w.heap.size, 0, none⟩ = some (.string X) := (Lib.cell_of_heap hcell 0).trans rfl
  have d1 : w1.cell? ⟨w.heap.size, 1, none⟩ = some (.slice A1 h.attrs.length c1) := (Lib.cell_of_heap hcell 1).trans rfl
  have d2 : w1.cell? ⟨w.heap.size, 2, none⟩ = some (.string Y) := (Lib.cell_of_heap hcell 2).trans rfl
  have d3 : w1.cell? ⟨w.heap.size, 3, none⟩ = some (.slice A2 n2 c2) := (Lib.cell_of_heap hcell 3).trans rfl
  have HB1 := hide (bl_one HBK.out hb1)
  have HCC1 := hide hcell
  clear hcell hb1 hk1
  by_cases e : elemB h = false
  · rw [e]
    have hn : h.name = [] := by simpa [elemB] using e
    have HS : Hid (serBg s h K = s ++ escQ false h.text) := hide (by simp [serBg, hn])
    have HD : Hid (serDv h = false) := hide (by simp [serDv, e])
    clear hn e
    go_wp2_with fail
    refine (HTX.out _ HB1.out).mono ?_
    rintro e w2 ⟨rfl, hb2⟩
    have HB2 := hide (bl_one HB1.out hb2)
    clear hb2
    go_wp2_with fail
    refine (HWS2.out _ HB2.out (by have := HM.out; rw [HS.out, List.length_append] at this; exact this)).mono ?_
    rintro e w3 ⟨rfl, h3, h4⟩
    have H3 := hide h3
    have H4 := hide ((KT.below HB2.out).trans h4)
    clear h3 h4
    go_wp2_with fail
    go_ret
    exact ⟨by rw [HRR.out, HD.out]; rfl, by rw [HS.out]; exact ⟨H3.out.1, HI.out.2.1.trans H3.out.2.1, H3.out.2.2⟩, H4.out⟩
  · replace e : elemB h = true := by simpa using e
    rw [e]
    have hn : h.name ≠ [] := by simpa [elemB] using e
    have HSL : Hid (s.length + (startW h).length ≤ 1000000000) := hide (by
      have := HM.out
      unfold serBg at this
      rw [if_neg hn] at this
      repeat' split at this
      all_goals (simp only [List.length_append] at this; omega))
    go_wp2_with fail
    refine (HTG.out _ HB1.out).mono ?_
    rintro e w2 ⟨rfl, hb2⟩
    have HB2 := hide (bl_one HB1.out hb2)
    have HK2 := hide (KT.below hb2)
    clear hb2
    go_wp2_with fail
    refine (HWS1.out _ HB2.out HSL.out).mono ?_
    rintro e w3 ⟨rfl, h3, h4⟩
    have hcell := ((HK2.out.trans h4) _ _ _ _ HCC1.out (by decide) (by decide)).trans HCC1.out
    have e0 : w3.cell? ⟨w.heap.size, 0, none⟩ = some (.string X) := (Lib.cell_of_heap hcell 0).trans rfl
    have e3 : w3.cell? ⟨w.heap.size, 3, none⟩ = some (.slice A2 n2 c2) := (Lib.cell_of_heap hcell 3).trans rfl
    have H3 := hide h3
    have H4 := hide ((KT.below HB2.out).trans h4)
    clear h3 h4 hcell
    by_cases v : voidB h.name = true
    · have HS : Hid (serBg s h K = s ++ startW h) := hide (by simp [serBg, hn, v])
      have HD : Hid (serDv h = false) := hide (by simp [serDv, v])
      rw [v] at HVD
      clear hn e v
      go_wp2_with (go_at_call 32; refine (HVD.out _).mono ?_; rintro e w5 ⟨rfl, hw5⟩; subst hw5)
      go_ret
      exact ⟨by rw [HRR.out, HD.out]; rfl, by rw [HS.out]; exact ⟨H3.out.1, HI.out.2.1.trans H3.out.2.1, H3.out.2.2⟩, H4.out⟩
    · have v0 : voidB h.name = false := by simpa using v
      rw [v0] at HVD
      by_cases r : rawB h.name = true
      · have HS : Hid (serBg s h K = s ++ startW h ++ rawK K) := hide (by simp [serBg, hn, v0, r])
        have HD : Hid (serDv h = false) := hide (by simp [serDv, r])
        rw [r] at HRW
        clear hn e v v0 r
        go_wp2_with (first
          | (go_at_call 32; refine (HVD.out _).mono ?_; rintro e w5 ⟨rfl, hw5⟩; subst hw5)
          | (go_at_call 19; refine (HRW.out _).mono ?_; rintro e w5 ⟨rfl, hw5⟩; subst hw5)
          | (go_at_call 123; refine (HWR.out _ _ H3.out (by have := HM.out; rw [HS.out] at this; exact this)).mono ?_; rintro e w6 ⟨rfl, h5, h6⟩; have H5 := hide h5; have H6 := hide (H4.out.trans h6); clear h5 h6))
        go_ret
        exact ⟨by rw [HRR.out, HD.out]; rfl, by rw [HS.out]; exact ⟨H5.out.1, HI.out.2.1.trans H5.out.2.1, H5.out.2.2⟩, H6.out⟩
      · have r0 : rawB h.name = false := by simpa using r
        have HS : Hid (serBg s h K = s ++ startW h) := hide (by simp [serBg, hn, v0, r0])
        have HD : Hid (serDv h = true) := hide (by simp [serDv, e, v0, r0])
        rw [r0] at HRW
        clear hn e v v0 r r0
        go_wp2_with (first
          | (go_at_call 32; refine (HVD.out _).mono ?_; rintro e w5 ⟨rfl, hw5⟩; subst hw5)
          | (go_at_call 19; refine (HRW.out _).mono ?_; rintro e w5 ⟨rfl, hw5⟩; subst hw5))
        go_ret
        exact ⟨by rw [HRR.out, HD.out]; rfl, by rw [HS.out]; exact ⟨H3.out.1, HI.out.2.1.trans H3.out.2.1, H3.out.2.2⟩, H4.out⟩
/-! ### Write -/
set_option maxHeartbeats 4000000 in
theorem wr_beg (W0 : World) (hE : EnvX W0) : BegOK W0.heap.size 77 #[.pointer (some ⟨W0.heap.size, 0, none⟩)] (fun s w => Bld W0.heap.size W0.heap.size s W0 w) serBg serDv List.length 1000000000 (fun h K => smallH h = true ∧ K.len ≤ 1000000) := by
  intro s w h K av A m c hi hB hG ha hk hm
  obtain ⟨A1, c1, rfl⟩ := ha.1.form
  show Calls Tryz.prog _ #[ndV h _ _, .pointer (some ⟨W0.heap.size, 0, none⟩)] w _
  unfold ndV
  obtain ⟨R, hR⟩ : ∃ R, R = (if serDv h = true then Value.slice A m c else Value.slice none 0 0) := ⟨_, rfl⟩
  have hbk := below_one w (Obj.cells #[.string (str h.name), .slice A1 h.attrs.length c1, .string (str h.text), .slice A m c] 41)
  have hi1 := hi.kept hbk
  have hb := serBegin_any W0.heap.size W0.heap.size s h K w _ A1 A m c1 c ⟨hi1.1, hbk.mono hB, hi1.2.2⟩ (ha.1.kept hbk) (NodesC.mono hk (same_below (hbk.mono hB)) (fun _ x => x)) hG.2 hG.1 (hE.kept hi1.2.1) hm
  rw [← hR] at hb ⊢
  have HB := hide hb
  have HI := hide hi
  have HK := hide (KT.below hbk)
  clear hi hB hG ha hk hm hR hE hb hbk hi1
  go_enter Tryz.func77, Tryz.ntmps77
  go_wp2_with fail
  refine HB.out.mono ?_
  rintro e w1 ⟨rfl, h1, h2⟩
  have H1 := hide h1
  have H2 := hide (HK.out.trans h2)
  clear h1 h2
  go_wp2_with fail
  go_ret
  exact ⟨rfl, ⟨H1.out.1, HI.out.2.1.trans H1.out.2.1, H1.out.2.2⟩, frl_kt H1.out.2.1 H2.out⟩
/-- an end, where only small nodes keep the bound -/
def serEn2 (s : List UInt8) (h : NdH) : List UInt8 := if smallH h = true then serEn s h else s ++ List.replicate 1000000001 0
theorem serEn2_le (s : List UInt8) (h : NdH) : s.length ≤ (serEn2 s h).length := by
  unfold serEn2; split
  · exact serEn_le s h
  · rw [List.length_append]; omega
theorem serEn2_small {s : List UInt8} {h : NdH} (hm : (serEn2 s h).length ≤ 1000000000) : smallH h = true ∧ serEn2 s h = serEn s h := by
  by_cases hs : smallH h = true
  · exact ⟨hs, by unfold serEn2; rw [if_pos hs]⟩
  · exfalso
    unfold serEn2 at hm
    rw [if_neg hs, List.length_append, List.length_replicate] at hm
    omega
theorem vis_write2 (T : Tr) (s : List UInt8) (ha : T.all smallH = true) : vis serBg serEn2 serDv T s = s ++ writeT T := by
  rw [← vis_write T s]
  induction T generalizing s with
  | nil => rfl
  | cons h K R ihk ihr =>
    simp only [Tr.all, Bool.and_eq_true] at ha
    have e : ∀ x, serEn2 x h = serEn x h := fun x => by unfold serEn2; rw [if_pos ha.1]
    simp only [vis, e, ihr _ ha.2.2, ihk _ ha.2.1]
theorem ev_small (T : Tr) (ha : T.all smallH = true) (hc : T.count ≤ 1000000) : T.ev (fun h K => smallH h = true ∧ K.len ≤ 1000000) := by
  induction T with
  | nil => trivial
  | cons h K R ihk ihr =>
    simp only [Tr.all, Bool.and_eq_true] at ha
    simp only [Tr.count] at hc
    exact ⟨⟨ha.1, Nat.le_trans (Tr.len_count K) (by omega)⟩, ihk ha.2.1 (by omega), ihr ha.2.2 (by omega)⟩
set_option maxHeartbeats 4000000 in
theorem wr_end (W0 : World) (hE : EnvX W0) : EndOK W0.heap.size 79 #[.pointer (some ⟨W0.heap.size, 0, none⟩)] (fun s w => Bld W0.heap.size W0.heap.size s W0 w) serEn2 List.length 1000000000 := by
  intro s w h K av kv hi hB ha hk hm0
  obtain ⟨hsm, he2⟩ := serEn2_small hm0
  rw [he2] at hm0
  have hm := hm0
  rw [he2]
  obtain ⟨A1, c1, rfl⟩ := ha.1.form
  obtain ⟨A2, c2, rfl⟩ := hk.form
  show Calls Tryz.prog _ #[ndV h _ _, .pointer (some ⟨W0.heap.size, 0, none⟩)] w _
  unfold ndV
  have hbk := below_one w (Obj.cells #[.string (str h.name), .slice A1 h.attrs.length c1, .string (str h.text), .slice A2 K.len c2] 41)
  have hi1 := hi.kept hbk
  have hb := serEnd_any W0.heap.size W0.heap.size s h w _ A1 A2 K.len c1 c2 ⟨hi1.1, hbk.mono hB, hi1.2.2⟩ (ha.1.kept hbk) hsm (hE.kept hi1.2.1) hm
  have HB := hide hb
  have HI := hide hi
  have HK := hide (KT.below hbk)
  clear hi hB ha hk hm hm0 hsm he2 hE hb hbk hi1
  go_enter Tryz.func79, Tryz.ntmps79
  go_wp2_with fail
  refine HB.out.mono ?_
  rintro e w1 ⟨rfl, h1, h2⟩
  have H1 := hide h1
  have H2 := hide (HK.out.trans h2)
  clear h1 h2
  go_wp2_with fail
  go_end0
  exact ⟨rfl, ⟨H1.out.1, HI.out.2.1.trans H1.out.2.1, H1.out.2.2⟩, frl_kt H1.out.2.1 H2.out⟩
set_option maxHeartbeats 4000000 in
theorem serWrite_any (v : Value) (T : Tr) (w : World) (hE : EnvX w) (hT : NodesIn w v T) (ha : T.all smallH = true) (hc : T.count ≤ 1000000) (hl : (writeT T).length ≤ 1000000000) :
    Calls Tryz.prog 40 #[v] w fun e w' => e = .returned (.string (str (writeT T))) ∧ Below w.heap.size w w' := by
  have hbk := below_one w (Obj.cells #[.pointer none, .slice none 0 0] 50)
  have hnew : Bld w.heap.size w.heap.size [] w (w.alloc (Obj.cells #[.pointer none, .slice none 0 0] 50)) := Bld.new (Below.refl _ _) (Nat.le_refl _)
  have HB := hide (walk_gen w.heap.size 77 79 #[.pointer (some ⟨w.heap.size, 0, none⟩)] #[.pointer (some ⟨w.heap.size, 0, none⟩)] (enters_of Tryz.func77 (by kernel_rfl) rfl) (enters_of Tryz.func79 (by kernel_rfl) rfl) (fun s w' => Bld w.heap.size w.heap.size s w w') serBg serEn2 serDv List.length 1000000000 (fun h K => smallH h = true ∧ K.len ≤ 1000000) serBg_le serEn2_le (bld_inv _ _ _) (wr_beg w hE) (wr_end w hE) v T [] (w.alloc (Obj.cells #[.pointer none, .slice none 0 0] 50)) (NodesC.mono hT (same_below hbk) (fun _ x => x)) (ev_small T ha hc) hc (by rw [vis_write2 T [] ha, List.nil_append]; exact hl) hnew hbk.size)
  rw [vis_write2 T [] ha, List.nil_append] at HB
  obtain ⟨A, c, rfl⟩ := NodesC.form hT
  have hmf : ∀ (fn : Fn) (first cap : Array Value) (w : World), (Instr.makeFunc fn first cap).run Tryz.prog w = .ok (.func fn first cap) w := fun _ _ _ _ => rfl
  clear hT hbk hnew ha hE
  go_enter Tryz.func40, Tryz.ntmps40
  go_wp2_with fail
  refine HB.out.mono ?_
  rintro e w1 ⟨rfl, h1, h2⟩
  have HS := hide h1.string
  clear h1 h2
  go_wp2_with fail
  refine HS.out.mono ?_
  rintro e w2 ⟨rfl, h3⟩
  have H3 := hide h3
  clear h3
  go_wp2_with fail
  go_ret
  exact ⟨rfl, H3.out⟩
end Go.Proofs.YtgokefodmjhhiaaGreatDoor

/- WALK of slices.Equal of attributes, slices.EqualFunc and same of nodes (ser). No statement is proved here. Own work of the verifier. -/
namespace Go.Proofs.YtgokefodmjhhiaaGreatDoor
open Go.RowKit
set_option linter.unusedVariables false
set_option linter.unusedSimpArgs false
set_option maxRecDepth 100000
set_option maxHeartbeats 4000000 in
theorem slEqual_any (v1 v2 : Value) (l1 l2 : List AtL) (w : World) (h1 : AttrsIn w v1 l1) (h2 : AttrsIn w v2 l2) (hn : l1.length ≤ 1048576) :
    Calls Tryz.prog 120 #[v1, v2] w fun e w' => e = .returned (.bool (decide (l1 = l2))) ∧ ∃ m, w' = w.drewN m := by
  obtain ⟨A1, c1, rfl⟩ := h1.form
  obtain ⟨A2, c2, rfl⟩ := h2.form
  have H1 := hide h1
  have H2 := hide h2
  clear h1 h2
  by_cases hl : l1.length = l2.length
  · have t0 : ((l1.length : Int) == l2.length) = true := by rw [beq_iff_eq]; omega
    have t1 : ((l1.length : Int) != l2.length) = false := by rw [bne, t0]; rfl
    go_enter Tryz.func120, Tryz.ntmps120
    go_wp2_with fail
    go_loopw [13] (fun i wr => ∃ k : Nat, k ≤ l1.length ∧ i = .int .i64 k ∧ Hid (∃ m, wr = w.drewN m) ∧ Hid (l1.take k = l2.take k)) (fun i _ => l1.length - (intOf i).toNat)
    case atStart => exact ⟨0, Nat.zero_le _, rfl, hide ⟨0, rfl⟩, hide rfl⟩
    case round =>
      obtain ⟨k, hk, rfl, HB, HG⟩ := hrel
      by_cases hlt : k < l1.length
      · obtain ⟨f, hf⟩ : ∃ f, l1[k]? = some f := ⟨_, List.getElem?_eq_getElem hlt⟩
        obtain ⟨g, hg⟩ : ∃ g, l2[k]? = some g := ⟨_, List.getElem?_eq_getElem (by omega)⟩
        obtain ⟨a, ha, hc1, hc2⟩ := (H1.out.kept (below_of13 HB.out)).at k f hf
        obtain ⟨b, hb, hd1, hd2⟩ := (H2.out.kept (below_of13 HB.out)).at k g hg
        subst ha hb
        have hlt2 : k < l2.length := by omega
        obtain ⟨X1, hX1⟩ : ∃ X, X = str f.1 := ⟨_, rfl⟩
        obtain ⟨X2, hX2⟩ : ∃ X, X = str f.2 := ⟨_, rfl⟩
        obtain ⟨Y1, hY1⟩ : ∃ X, X = str g.1 := ⟨_, rfl⟩
        obtain ⟨Y2, hY2⟩ : ∃ X, X = str g.2 := ⟨_, rfl⟩
        rw [← hX1] at hc1
        rw [← hX2] at hc2
        rw [← hY1] at hd1
        rw [← hY2] at hd2
        by_cases he : f = g
        · have e1 : X1 = Y1 := by rw [hX1, hY1, he]
          have e2 : X2 = Y2 := by rw [hX2, hY2, he]
          subst e1 e2
          have HN : Hid (l1.take (k + 1) = l2.take (k + 1)) := hide (by rw [List.take_add_one, List.take_add_one, HG.out, hf, hg, he])
          clear he hf hg hX1 hX2 hY1 hY2
          rw [← hl] at *
          go_wp2_with fail
          go_quiet (fail)
          go_wp2_with fail
          go_roundw
          case rel => exact ⟨k + 1, by omega, by go_num, hide (drew_on HB.out nq), HN⟩
          case measure => simp [intOf]; omega
        · have HD : Hid (decide (l1 = l2) = false) := hide (decide_eq_false (fun e => he (by rw [e, hg] at hf; exact (Option.some.inj hf).symm)))
          by_cases he1 : f.1 = g.1
          · have he2 : f.2 ≠ g.2 := fun e => he (Prod.ext he1 e)
            have e1 : X1 = Y1 := by rw [hX1, hY1, he1]
            have t2 : (X2.toList == Y2.toList) = false := by
              rw [hX2, hY2, bytes_list, bytes_list, str_toList, str_toList]; exact beq_eq_false_iff_ne.2 he2
            subst e1
            clear he he1 he2 hf hg hX1 hX2 hY1 hY2
            go_wp2_with fail
            go_quiet (fail)
            go_wp2_with fail
            go_ret
            exact ⟨ret_bool HD.out.symm, drew_on HB.out nq⟩
          · have t2 : (X1.toList == Y1.toList) = false := by
              rw [hX1, hY1, bytes_list, bytes_list, str_toList, str_toList]; exact beq_eq_false_iff_ne.2 he1
            clear he he1 hf hg hX1 hX2 hY1 hY2
            go_wp2_with fail
            go_quiet (fail)
            go_wp2_with fail
            go_ret
            exact ⟨ret_bool HD.out.symm, drew_on HB.out nq⟩
      · have HD : Hid (decide (l1 = l2) = true) := hide (decide_eq_true (by
          have := HG.out
          rwa [List.take_of_length_le (by omega), List.take_of_length_le (by omega)] at this))
        go_wp2_with fail
        go_ret
        exact ⟨ret_bool HD.out.symm, HB.out⟩
  · have t0 : ((l1.length : Int) == l2.length) = false := by rw [beq_eq_false_iff_ne]; omega
    have t1 : ((l1.length : Int) != l2.length) = true := by rw [bne, t0]; rfl
    have HD : Hid (decide (l1 = l2) = false) := hide (decide_eq_false (fun e => hl (by rw [e])))
    clear hl
    go_enter Tryz.func120, Tryz.ntmps120
    go_wp2_with fail
    go_ret
    exact ⟨ret_bool HD.out.symm, 0, rfl⟩
/-! ### same -/
/-- sameNode, that is held by the variable in block g -/
def samF (g : Nat) : Value := .func (.func 119) #[] #[.pointer (some ⟨g, 0, none⟩)]
def SamC (w : World) (g : Nat) : Prop := g < w.heap.size ∧ w.cell? ⟨g, 0, none⟩ = some (samF g)
theorem SamC.kept {w w' : World} {g : Nat} (h : SamC w g) (hb : Below w.heap.size w w') : SamC w' g :=
  ⟨Nat.lt_of_lt_of_le h.1 hb.size, (World.cell?_of_block (hb.block g h.1)).trans h.2⟩
def EqfP (N : Nat) : Prop := ∀ (v1 v2 : Value) (t1 t2 : Tr) (w : World) (g : Nat), t1.count < N → N ≤ 1000000 → NodesIn w v1 t1 → NodesIn w v2 t2 → t1.all attrsFew = true → SamC w g →
    Calls Tryz.prog 121 #[v1, v2, samF g] w fun e w' => e = .returned (.bool (decide (t1 = t2))) ∧ Below w.heap.size w w'
theorem bl_two {w w1 w2 : World} (h : Below w.heap.size w w1) (h2 : Below w1.heap.size w1 w2) : Below w.heap.size w w2 := h.trans (h2.mono h.size)
set_option maxHeartbeats 8000000 in
theorem sameNode_of (N : Nat) (IH : EqfP N) (h1 h2 : NdH) (K1 K2 : Tr) (A1 A2 A3 A4 : Option Addr) (c1 c2 c3 c4 : Nat) (w : World) (g : Nat) (hN : N ≤ 1000000) (hc : K1.count < N)
    (ha1 : AttrsIn w (.slice A1 h1.attrs.length c1) h1.attrs) (ha2 : AttrsIn w (.slice A3 h2.attrs.length c3) h2.attrs) (hk1 : NodesIn w (.slice A2 K1.len c2) K1) (hk2 : NodesIn w (.slice A4 K2.len c4) K2) (hf : attrsFew h1 = true) (hff : K1.all attrsFew = true) (hs : SamC w g) :
    Calls Tryz.prog 119 #[.agg #[.string (str h1.name), .slice A1 h1.attrs.length c1, .string (str h1.text), .slice A2 K1.len c2], .agg #[.string (str h2.name), .slice A3 h2.attrs.length c3, .string (str h2.text), .slice A4 K2.len c4], .pointer (some ⟨g, 0, none⟩)] w fun e w' => e = .returned (.bool (decide ((h1, K1) = (h2, K2)))) ∧ Below w.heap.size w w' := by
  obtain ⟨X1, hX1⟩ : ∃ X, X = str h1.name := ⟨_, rfl⟩
  obtain ⟨X2, hX2⟩ : ∃ X, X = str h2.name := ⟨_, rfl⟩
  obtain ⟨Y1, hY1⟩ : ∃ X, X = str h1.text := ⟨_, rfl⟩
  obtain ⟨Y2, hY2⟩ : ∃ X, X = str h2.text := ⟨_, rfl⟩
  obtain ⟨D, hD⟩ : ∃ D, D = decide ((h1, K1) = (h2, K2)) := ⟨_, rfl⟩
  rw [← hX1, ← hX2, ← hY1, ← hY2, ← hD]
  obtain ⟨W1, hW1⟩ : ∃ W, W = w.alloc (Obj.cells #[.string X1, .slice A1 h1.attrs.length c1, .string Y1, .slice A2 K1.len c2] 41) := ⟨_, rfl⟩
  obtain ⟨W, hW⟩ : ∃ W, W = W1.alloc (Obj.cells #[.string X2, .slice A3 h2.attrs.length c3, .string Y2, .slice A4 K2.len c4] 41) := ⟨_, rfl⟩
  have hb1 : Below w.heap.size w W1 := by rw [hW1]; exact below_one w _
  have hbw : Below W1.heap.size W1 W := by rw [hW]; exact below_one W1 _
  have hb2 := bl_two hb1 hbw
  have hz1 : W1.heap.size = w.heap.size + 1 := by rw [hW1, World.size_alloc]
  have g1 : W.heap[w.heap.size]? = some (Obj.cells #[.string X1, .slice A1 h1.attrs.length c1, .string Y1, .slice A2 K1.len c2] 41 (0, 0)) := (hbw.block _ (by omega)).trans (by rw [hW1]; exact heap_alloc_new w _)
  have g2 : W.heap[w.heap.size + 1]? = some (Obj.cells #[.string X2, .slice A3 h2.attrs.length c3, .string Y2, .slice A4 K2.len c4] 41 (0, 0)) := by rw [← hz1, hW]; exact heap_alloc_new W1 _
  have hCE : ∀ w', Below w.heap.size w w' → (∀ k : Nat, k < W.heap.size → w'.heap[k]? = W.heap[k]?) → (w'.cell? ⟨w.heap.size, 1, none⟩ = some (.slice A1 h1.attrs.length c1) ∧ w'.cell? ⟨w.heap.size, 2, none⟩ = some (.string Y1) ∧ w'.cell? ⟨w.heap.size, 3, none⟩ = some (.slice A2 K1.len c2) ∧ w'.cell? ⟨w.heap.size + 1, 1, none⟩ = some (.slice A3 h2.attrs.length c3) ∧ w'.cell? ⟨w.heap.size + 1, 2, none⟩ = some (.string Y2) ∧ w'.cell? ⟨w.heap.size + 1, 3, none⟩ = some (.slice A4 K2.len c4)) ∧ w'.cell? ⟨g, 0, none⟩ = some (samF g) := fun w' hb hk => by
    have e1 := (hk _ (lt_of_block g1)).trans g1
    have e2 := (hk _ (lt_of_block g2)).trans g2
    exact ⟨⟨(Lib.cell_of_heap e1 1).trans rfl, (Lib.cell_of_heap e1 2).trans rfl, (Lib.cell_of_heap e1 3).trans rfl, (Lib.cell_of_heap e2 1).trans rfl, (Lib.cell_of_heap e2 2).trans rfl, (Lib.cell_of_heap e2 3).trans rfl⟩, (hs.kept hb).2⟩
  have HCE := hide hCE
  have HSA : Hid (∀ w', Below w.heap.size w w' → Calls Tryz.prog 120 #[.slice A1 h1.attrs.length c1, .slice A3 h2.attrs.length c3] w' fun e w'' => e = .returned (.bool (decide (h1.attrs = h2.attrs))) ∧ ∃ m, w'' = w'.drewN m) := hide (fun w' hb => slEqual_any _ _ _ _ w' (ha1.kept hb) (ha2.kept hb) (by simpa [attrsFew] using hf))
  have HEQ : Hid (∀ w', Below w.heap.size w w' → Calls Tryz.prog 121 #[.slice A2 K1.len c2, .slice A4 K2.len c4, samF g] w' fun e w'' => e = .returned (.bool (decide (K1 = K2))) ∧ Below w'.heap.size w' w'') := hide (fun w' hb => IH _ _ K1 K2 w' g hc hN (hk1.kept hb) (hk2.kept hb) hff (hs.kept hb))
  have HB2 := hide hb2
  have HW1 := hide hW1
  have HW := hide hW
  have hd1 : h1.name ≠ h2.name → D = false := fun h => by rw [hD]; exact decide_eq_false (fun e => h (congrArg (fun z : NdH × Tr => z.1.name) e))
  have hd2 : h1.text ≠ h2.text → D = false := fun h => by rw [hD]; exact decide_eq_false (fun e => h (congrArg (fun z : NdH × Tr => z.1.text) e))
  have hd3 : h1.attrs ≠ h2.attrs → D = false := fun h => by rw [hD]; exact decide_eq_false (fun e => h (congrArg (fun z : NdH × Tr => z.1.attrs) e))
  have hd4 : h1.name = h2.name → h1.text = h2.text → h1.attrs = h2.attrs → D = decide (K1 = K2) := fun e1 e2 e3 => by
    rw [hD]
    have eh : h1 = h2 := by cases h1; cases h2; simp only at e1 e2 e3; rw [e1, e2, e3]
    rw [eh]
    by_cases hk : K1 = K2
    · rw [hk]; simp
    · rw [decide_eq_false hk]; exact decide_eq_false (fun e => hk (congrArg Prod.snd e))
  clear hCE hb1 hbw hb2 hz1 g1 g2 hW1 hW ha1 ha2 hk1 hk2 hf hff hs hc hN IH hD
  by_cases n1 : h1.name = h2.name
  · obtain rfl : X1 = X2 := by rw [hX1, hX2, n1]
    by_cases n2 : h1.text = h2.text
    · obtain rfl : Y1 = Y2 := by rw [hY1, hY2, n2]
      by_cases n3 : h1.attrs = h2.attrs
      · have HD := hide (hd4 n1 n2 n3)
        rw [decide_eq_true n3] at HSA
        clear hd1 hd2 hd3 hd4 n1 n2 n3 hX1 hX2 hY1 hY2
        go_enter Tryz.func119, Tryz.ntmps119
        go_wp2_with fail
        rw [← HW1.out, ← HW.out]
        refine (HSA.out _ HB2.out).mono ?_
        rintro e w3 ⟨rfl, hq⟩
        have hb3 := bl_two HB2.out (below_of13 hq)
        obtain ⟨⟨d1, d2, d3, d4, d5, d6⟩, d7⟩ := HCE.out w3 hb3 (by obtain ⟨q, rfl⟩ := hq; intro k _; rfl)
        have HB3 := hide hb3
        clear hq hb3
        go_wp2_with fail
        refine (HEQ.out _ HB3.out).mono ?_
        rintro e w4 ⟨rfl, hb4⟩
        have HB4 := hide (bl_two HB3.out hb4)
        clear hb4
        rw [← HD.out]
        go_wp2_with fail
        go_ret
        exact ⟨rfl, HB4.out⟩
      · have HD := hide (hd3 n3)
        rw [decide_eq_false n3] at HSA
        clear hd1 hd2 hd3 hd4 n1 n2 n3 hX1 hX2 hY1 hY2
        go_enter Tryz.func119, Tryz.ntmps119
        go_wp2_with fail
        rw [← HW1.out, ← HW.out]
        refine (HSA.out _ HB2.out).mono ?_
        rintro e w3 ⟨rfl, hq⟩
        have HB3 := hide (bl_two HB2.out (below_of13 hq))
        clear hq
        go_wp2_with fail
        go_ret
        exact ⟨ret_bool HD.out.symm, HB3.out⟩
    · have HD := hide (hd2 n2)
      have t2 : (Y1.toList == Y2.toList) = false := by
        rw [hY1, hY2, bytes_list, bytes_list, str_toList, str_toList]; exact beq_eq_false_iff_ne.2 n2
      clear hd1 hd2 hd3 hd4 n1 n2 hX1 hX2 hY1 hY2
      go_enter Tryz.func119, Tryz.ntmps119
      go_wp2_with fail
      go_ret
      exact ⟨ret_bool HD.out.symm, by rw [← HW1.out, ← HW.out]; exact HB2.out⟩
  · have HD := hide (hd1 n1)
    have t2 : (X1.toList == X2.toList) = false := by
      rw [hX1, hX2, bytes_list, bytes_list, str_toList, str_toList]; exact beq_eq_false_iff_ne.2 n1
    clear hd1 hd2 hd3 hd4 n1 hX1 hX2 hY1 hY2
    go_enter Tryz.func119, Tryz.ntmps119
    go_wp2_with fail
    go_ret
    exact ⟨ret_bool HD.out.symm, by rw [← HW1.out, ← HW.out]; exact HB2.out⟩
set_option maxHeartbeats 8000000 in
theorem eqf_step (n : Nat) (IH : EqfP n) : EqfP (n + 1) := by
  intro v1 v2 t1 t2 w g hn hN h1 h2 ha hs
  have hn1 : t1.len ≤ 1048576 := Nat.le_trans (Tr.len_count t1) (by omega)
  obtain ⟨A1, c1, rfl⟩ := NodesC.form h1
  obtain ⟨A2, c2, rfl⟩ := NodesC.form h2
  have H1 := hide h1
  have H2 := hide h2
  have HAL := hide ha
  have HSC := hide hs
  have HIH := hide IH
  clear h1 h2 ha IH hs
  unfold samF
  by_cases hl : t1.len = t2.len
  · have t0 : ((t1.len : Int) == t2.len) = true := by rw [beq_iff_eq]; omega
    have t1x : ((t1.len : Int) != t2.len) = false := by rw [bne, t0]; rfl
    have HL := hide hl
    clear hl
    go_enter Tryz.func121, Tryz.ntmps121
    go_wp2_with fail
    go_loopw [17] (fun i wr => ∃ k : Nat, k ≤ t1.len ∧ i = .int .i64 k ∧ Hid (Below w.heap.size w wr) ∧ Hid (t1.list.take k = t2.list.take k)) (fun i _ => t1.len - (intOf i).toNat)
    case atStart => exact ⟨0, Nat.zero_le _, rfl, hide (Below.refl _ _), hide rfl⟩
    case round =>
      obtain ⟨k, hk, rfl, HB, HG⟩ := hrel
      by_cases hlt : k < t1.len
      · obtain ⟨⟨f, K⟩, hf⟩ : ∃ f, t1.list[k]? = some f := ⟨_, List.getElem?_eq_getElem (by rw [Tr.len_list]; exact hlt)⟩
        obtain ⟨⟨h, L⟩, hg⟩ : ∃ g, t2.list[k]? = some g := ⟨_, List.getElem?_eq_getElem (by rw [Tr.len_list]; have := HL.out; omega)⟩
        have hlt2 : k < t2.len := by have := HL.out; omega
        have hI1 := H1.out.kept HB.out
        obtain ⟨a, d, x, y, z, m, ha, -, p1, p2, hA, p3, p4, hm, hK⟩ := NodesC.at hI1 k f K hf
        subst ha hm
        have hb1 := below_one wr (Obj.cells #[.string (str f.name), .slice d f.attrs.length y, .string (str f.text), .slice x K.len z] 41)
        have hI2 := H2.out.kept (bl_two HB.out hb1)
        obtain ⟨b, d', x', y', z', m', hb, -, q1, q2, hB, q3, q4, hm', hL⟩ := NodesC.at hI2 k h L hg
        subst hb hm'
        have hKc := Tr.at_count hf
        obtain ⟨haf, haK⟩ := Tr.all_at HAL.out hf
        have hb3 := below_one (wr.alloc (Obj.cells #[.string (str f.name), .slice d f.attrs.length y, .string (str f.text), .slice x K.len z] 41)) (Obj.cells #[.string (str h.name), .slice d' h.attrs.length y', .string (str h.text), .slice x' L.len z'] 41)
        have hb2 := bl_two hb1 hb3
        have HSM := hide (sameNode_of n HIH.out f h K L d x d' x' y z y' z' _ g (by omega) (by omega) (hA.1.kept hb2) (hB.1.kept hb3) (NodesIn.kept hK hb2) (NodesIn.kept hL hb3) haf haK ((HSC.out.kept HB.out).kept hb2))
        have HB2 := hide (bl_two HB.out hb2)
        have HF := hide hf
        have HGG := hide hg
        clear hI1 hI2 hA hB hK hL hb1 hb2 hb3 hKc haf haK hf hg
        by_cases he : (f, K) = (h, L)
        · have HN : Hid (t1.list.take (k + 1) = t2.list.take (k + 1)) := hide (by rw [List.take_add_one, List.take_add_one, HG.out, HF.out, HGG.out, he])
          rw [decide_eq_true he] at HSM
          clear he HF HGG
          go_wp2_with fail
          refine HSM.out.mono ?_
          rintro e w3 ⟨rfl, hb3⟩
          have HB3 := hide (bl_two HB2.out hb3)
          clear hb3
          go_wp2_with fail
          go_roundw
          case rel => exact ⟨k + 1, by omega, by go_num, HB3, HN⟩
          case measure => simp [intOf]; omega
        · have HD : Hid (decide (t1 = t2) = false) := hide (decide_eq_false (fun e => he (by have hf := HF.out; rw [e, HGG.out] at hf; exact (Option.some.inj hf).symm)))
          rw [decide_eq_false he] at HSM
          clear he HF HGG
          go_wp2_with fail
          refine HSM.out.mono ?_
          rintro e w3 ⟨rfl, hb3⟩
          have HB3 := hide (bl_two HB2.out hb3)
          clear hb3
          go_wp2_with fail
          go_ret
          exact ⟨ret_bool HD.out.symm, HB3.out⟩
      · have HD : Hid (decide (t1 = t2) = true) := hide (decide_eq_true (by
          have := HG.out
          rw [List.take_of_length_le (by rw [Tr.len_list]; omega), List.take_of_length_le (by rw [Tr.len_list]; have := HL.out; omega)] at this
          exact Tr.list_inj this))
        go_wp2_with fail
        go_ret
        exact ⟨ret_bool HD.out.symm, HB.out⟩
  · have t0 : ((t1.len : Int) == t2.len) = false := by rw [beq_eq_false_iff_ne]; omega
    have t1x : ((t1.len : Int) != t2.len) = true := by rw [bne, t0]; rfl
    have HD : Hid (decide (t1 = t2) = false) := hide (decide_eq_false (fun e => hl (by rw [e])))
    clear hl
    go_enter Tryz.func121, Tryz.ntmps121
    go_wp2_with fail
    go_ret
    exact ⟨ret_bool HD.out.symm, Below.refl _ _⟩
theorem eqf_all : ∀ n, EqfP n
  | 0 => fun v1 v2 t1 t2 w g h => absurd h (Nat.not_lt_zero _)
  | n + 1 => eqf_step n (eqf_all n)
set_option maxHeartbeats 4000000 in
theorem serSame_any (v1 v2 : Value) (t1 t2 : Tr) (w : World) (hn : t1.count < 1000000) (h1 : NodesIn w v1 t1) (h2 : NodesIn w v2 t2) (ha : t1.all attrsFew = true) :
    Calls Tryz.prog 76 #[v1, v2] w fun e w' => e = .returned (.bool (decide (t1 = t2))) ∧ Below w.heap.size w w' := by
  obtain ⟨A1, c1, rfl⟩ := NodesC.form h1
  obtain ⟨A2, c2, rfl⟩ := NodesC.form h2
  have hmf : ∀ (fn : Fn) (first cap : Array Value) (w : World), (Instr.makeFunc fn first cap).run Tryz.prog w = .ok (.func fn first cap) w := fun _ _ _ _ => rfl
  have hst := fun (a : Addr) (w : World) (fn : Fn) (x y : Array Value) => run_store Tryz.prog w a (.func fn x y) .plain rfl
  have HQ : Hid (∀ w', Below w.heap.size w w' → SamC w' w.heap.size → Calls Tryz.prog 121 #[.slice A1 t1.len c1, .slice A2 t2.len c2, samF w.heap.size] w' fun e w'' => e = .returned (.bool (decide (t1 = t2))) ∧ Below w'.heap.size w' w'') := hide (fun w' hb hs =>
    eqf_all (t1.count + 1) _ _ t1 t2 w' w.heap.size (Nat.lt_succ_self _) (by omega) (h1.kept hb) (h2.kept hb) ha hs)
  clear h1 h2 ha
  go_enter Tryz.func76, Tryz.ntmps76
  go_wp2_with fail
  have hb := below_one w (Obj.cells #[samF w.heap.size] 123)
  refine (HQ.out _ hb ⟨by rw [World.size_alloc]; omega, (World.cell?_alloc_at _ _ _ _ rfl).trans rfl⟩).mono ?_
  rintro e w1 ⟨rfl, hb1⟩
  have HB := hide (bl_two hb hb1)
  clear hb hb1
  go_wp2_with fail
  go_ret
  exact ⟨rfl, HB.out⟩
end Go.Proofs.YtgokefodmjhhiaaGreatDoor

/- WALK of ser.Stable. No statement is proved here. Own work of the verifier. -/
namespace Go.Proofs.YtgokefodmjhhiaaGreatDoor
open Go.RowKit
set_option linter.unusedVariables false
set_option linter.unusedSimpArgs false
set_option maxRecDepth 100000
theorem small_few {T : Tr} (ha : T.all smallH = true) : T.all attrsFew = true := by
  induction T with
  | nil => rfl
  | cons h K R ihk ihr =>
    simp only [Tr.all, Bool.and_eq_true] at ha ⊢
    refine ⟨?_, ihk ha.2.1, ihr ha.2.2⟩
    have h2 := ha.1
    unfold smallH fitT at h2
    simp only [Bool.and_eq_true, decide_eq_true_eq] at h2
    unfold attrsFew
    exact decide_eq_true (by omega)
/-- is a tree what its document is read to? -/
def stableB (T : Tr) : Bool := decide (T = buildP (scanL decE [] [] (writeT T)))
set_option maxHeartbeats 4000000 in
theorem serStable_any (v : Value) (T : Tr) (w : World) (hE : EnvX w) (hT : NodesIn w v T) (ha : T.all smallH = true) (hc : T.count < 1000000) (hl : (writeT T).length ≤ 1000000) :
    Calls Tryz.prog 38 #[v] w fun e w' => e = .returned (.bool (stableB T)) ∧ Below w.heap.size w w' := by
  obtain ⟨A, c, rfl⟩ := NodesC.form hT
  have HW := hide (serWrite_any _ T w hE hT ha (by omega) (by omega))
  obtain ⟨S, hS⟩ : ∃ S, S = str (writeT T) := ⟨_, rfl⟩
  have hSz : S.size ≤ 1000000 := by rw [hS, str_size]; exact hl
  have hSl : S.data.toList = writeT T := by rw [hS, str_toList]
  rw [← hS] at HW
  have HB : Hid (∀ w', Below w.heap.size w w' → Calls Tryz.prog 23 #[.string S] w' fun e w'' => ∃ u, e = .returned u ∧ NodesIn w'' u (buildP (scanL decE [] [] (writeT T))) ∧ Below w'.heap.size w' w'') := hide (fun w' hb => by
    have hE' := hE.kept hb
    obtain ⟨m, hm⟩ := hE'.2
    have := treeBuild_any S m w' hSz hE'.1 hm
    rw [hSl] at this
    exact this)
  have HM : Hid (∀ w' u, Below w.heap.size w w' → NodesIn w' u (buildP (scanL decE [] [] (writeT T))) → Calls Tryz.prog 76 #[.slice A T.len c, u] w' fun e w'' => e = .returned (.bool (stableB T)) ∧ Below w'.heap.size w' w'') := hide (fun w' u hb hu =>
    serSame_any _ _ T _ w' hc (hT.kept hb) hu (small_few ha))
  clear hE hT ha hc hl hS hSz hSl
  go_enter Tryz.func38, Tryz.ntmps38
  go_wp2_with fail
  refine HW.out.mono ?_
  rintro e w1 ⟨rfl, hb1⟩
  have HB1 := hide hb1
  clear hb1
  go_wp2_with fail
  refine (HB.out _ HB1.out).mono ?_
  rintro e w2 ⟨u, rfl, hu, hb2⟩
  have HB2 := hide (bl_two HB1.out hb2)
  have HS := hide (HM.out _ u HB2.out hu)
  obtain ⟨A2, c2, rfl⟩ := NodesC.form hu
  clear hu hb2
  go_wp2_with fail
  refine HS.out.mono ?_
  rintro e w3 ⟨rfl, hb3⟩
  have HB3 := hide (bl_two HB2.out hb3)
  clear hb3
  go_wp2_with fail
  go_ret
  exact ⟨rfl, HB3.out⟩
end Go.Proofs.YtgokefodmjhhiaaGreatDoor

/- WALK of the law's live (layer 15). No statement is proved here. Own work of the verifier. -/
namespace Go.Proofs.YtgokefodmjhhiaaGreatDoor
open Go.RowKit
set_option linter.unusedVariables false
set_option linter.unusedSimpArgs false
set_option maxRecDepth 100000
def live15a : List UInt8 := [60, 112, 32, 120, 61, 34, 38, 113, 117, 111, 116, 59, 34, 62, 97, 38, 108, 116, 59, 98, 60, 98, 114, 62, 60, 47, 112, 62, 60, 115, 116, 121, 108, 101, 62, 60, 38, 60, 47, 115, 116, 121, 108, 101, 62]
def t15a : Tr := .cons ⟨[112], [([120], [34])], []⟩ (.cons (txH [97, 60, 98]) .nil (.cons ⟨[98, 114], [], []⟩ .nil .nil)) (.cons ⟨[115, 116, 121, 108, 101], [], []⟩ (.cons (txH [60, 38]) .nil .nil) .nil)
def t15b : Tr := .cons ⟨[112], [], []⟩ (.cons ⟨[112], [], []⟩ .nil .nil) .nil
theorem w15a : writeT t15a = live15a := by decide +kernel
theorem x15a : textT t15a = [97, 60, 98, 60, 38] := by decide +kernel
theorem s15a : stableB t15a = true := by decide +kernel
theorem s15b : stableB t15b = false := by decide +kernel
theorem small15 : t15a.all smallH = true ∧ t15b.all smallH = true ∧ (writeT t15b).length ≤ 1000000 := by decide +kernel
def l15a0 : Array Value := #[.string ⟨#[120]⟩, .string ⟨#[34]⟩]
def l15a1 : Array Value := #[.string ⟨#[]⟩, .slice none 0 0, .string ⟨#[97, 60, 98]⟩, .slice none 0 0, .string ⟨#[98, 114]⟩, .slice none 0 0, .string ⟨#[]⟩, .slice none 0 0]
def l15a2 : Array Value := #[.string ⟨#[]⟩, .slice none 0 0, .string ⟨#[60, 38]⟩, .slice none 0 0]
def l15a3 (n : Nat) : Array Value := #[.string ⟨#[112]⟩, .slice (some ⟨n, 0, none⟩) 1 1, .string ⟨#[]⟩, .slice (some ⟨n + 1, 0, none⟩) 2 2, .string ⟨#[115, 116, 121, 108, 101]⟩, .slice none 0 0, .string ⟨#[]⟩, .slice (some ⟨n + 1 + 1, 0, none⟩) 1 1]
/-- the first tree, as the law lays it -/
def l15W (w : World) : World := (((w.alloc (.cells l15a0 32)).alloc (.cells l15a1 41)).alloc (.cells l15a2 41)).alloc (.cells (l15a3 w.heap.size) 41)
theorem l15_blocks (w : World) : (l15W w).heap[w.heap.size]? = some (Obj.cells l15a0 32 (0, 0)) ∧ (l15W w).heap[w.heap.size + 1]? = some (Obj.cells l15a1 41 (0, 0)) ∧ (l15W w).heap[w.heap.size + 1 + 1]? = some (Obj.cells l15a2 41 (0, 0)) ∧ (l15W w).heap[w.heap.size + 1 + 1 + 1]? = some (Obj.cells (l15a3 w.heap.size) 41 (0, 0)) ∧ Below w.heap.size w (l15W w) := by
  have e : (l15W w).heap = (((w.heap.push (.cells l15a0 32)).push (.cells l15a1 41)).push (.cells l15a2 41)).push (.cells (l15a3 w.heap.size) 41) := rfl
  have hs : ∀ (h : Array Obj) (o : Obj) (k : Nat), k ≠ h.size → (h.push o)[k]? = h[k]? := fun h o k hk => by rw [Array.getElem?_push, if_neg hk]
  have ht : ∀ (h : Array Obj) (o : Obj) (k : Nat), k = h.size → (h.push o)[k]? = some o := fun h o k hk => by rw [Array.getElem?_push, if_pos hk]
  refine ⟨?_, ?_, ?_, ?_, ⟨rfl, rfl, rfl, ?_, fun k hk => ?_⟩⟩
  · rw [e, hs _ _ _ (by simp only [Array.size_push]; omega), hs _ _ _ (by simp only [Array.size_push]; omega), hs _ _ _ (by simp only [Array.size_push]; omega), ht _ _ _ rfl]
  · rw [e, hs _ _ _ (by simp only [Array.size_push]; omega), hs _ _ _ (by simp only [Array.size_push]; omega), ht _ _ _ (by simp only [Array.size_push])]
  · rw [e, hs _ _ _ (by simp only [Array.size_push]; omega), ht _ _ _ (by simp only [Array.size_push])]
  · rw [e, ht _ _ _ (by simp only [Array.size_push])]
  · rw [e]; simp only [Array.size_push]; omega
  · rw [e, hs _ _ _ (by simp only [Array.size_push]; omega), hs _ _ _ (by simp only [Array.size_push]; omega), hs _ _ _ (by simp only [Array.size_push]; omega), hs _ _ _ (by omega)]
theorem live15_lit (w : World) : NodesIn (l15W w) (.slice (some ⟨w.heap.size + 1 + 1 + 1, 0, none⟩) 2 2) t15a := by
  obtain ⟨b0, b1, b2, b3, _⟩ := l15_blocks w
  have k1 : NodesIn (l15W w) (.slice (some ⟨w.heap.size + 1, 0, none⟩) 2 2) (.cons (txH [97, 60, 98]) .nil (.cons ⟨[98, 114], [], []⟩ .nil .nil)) :=
    nodes_of (node_at b1 rfl rfl rfl rfl (no_attrs _) (no_nodes _) (node_at b1 rfl rfl rfl rfl (no_attrs _) (no_nodes _) trivial)) rfl (by decide)
  have k2 : NodesIn (l15W w) (.slice (some ⟨w.heap.size + 1 + 1, 0, none⟩) 1 1) (.cons (txH [60, 38]) .nil .nil) := nodes_of (node_at b2 rfl rfl rfl rfl (no_attrs _) (no_nodes _) trivial) rfl (by decide)
  have k0 : AttrsC (fun b => b < (l15W w).heap.size) (l15W w) (.slice (some ⟨w.heap.size, 0, none⟩) 1 1) [([120], [34])] := some_attrs [([120], [34])] b0 rfl (by decide)
  exact nodes_of (node_at b3 rfl rfl rfl rfl k0 k1 (node_at b3 rfl rfl rfl rfl (no_attrs _) k2 trivial)) rfl (by decide)
def l15b0 : Array Value := #[.string ⟨#[112]⟩, .slice none 0 0, .string ⟨#[]⟩, .slice none 0 0]
def l15b1 (n : Nat) : Array Value := #[.string ⟨#[112]⟩, .slice none 0 0, .string ⟨#[]⟩, .slice (some ⟨n, 0, none⟩) 1 1]
/-- the second tree, as the law lays it -/
def l15bW (w : World) : World := (w.alloc (.cells l15b0 41)).alloc (.cells (l15b1 w.heap.size) 41)
theorem l15b_blocks (w : World) : (l15bW w).heap[w.heap.size]? = some (Obj.cells l15b0 41 (0, 0)) ∧ (l15bW w).heap[w.heap.size + 1]? = some (Obj.cells (l15b1 w.heap.size) 41 (0, 0)) ∧ Below w.heap.size w (l15bW w) := by
  have e : (l15bW w).heap = (w.heap.push (.cells l15b0 41)).push (.cells (l15b1 w.heap.size) 41) := rfl
  have hs : ∀ (h : Array Obj) (o : Obj) (k : Nat), k ≠ h.size → (h.push o)[k]? = h[k]? := fun h o k hk => by rw [Array.getElem?_push, if_neg hk]
  have ht : ∀ (h : Array Obj) (o : Obj) (k : Nat), k = h.size → (h.push o)[k]? = some o := fun h o k hk => by rw [Array.getElem?_push, if_pos hk]
  refine ⟨?_, ?_, ⟨rfl, rfl, rfl, ?_, fun k hk => ?_⟩⟩
  · rw [e, hs _ _ _ (by simp only [Array.size_push]; omega), ht _ _ _ rfl]
  · rw [e, ht _ _ _ (by simp only [Array.size_push])]
  · rw [e]; simp only [Array.size_push]; omega
  · rw [e, hs _ _ _ (by simp only [Array.size_push]; omega), hs _ _ _ (by omega)]
theorem live15b_lit (w : World) : NodesIn (l15bW w) (.slice (some ⟨w.heap.size + 1, 0, none⟩) 1 1) t15b := by
  obtain ⟨b0, b1, _⟩ := l15b_blocks w
  have k1 : NodesIn (l15bW w) (.slice (some ⟨w.heap.size, 0, none⟩) 1 1) (.cons ⟨[112], [], []⟩ .nil .nil) := nodes_of (node_at b0 rfl rfl rfl rfl (no_attrs _) (no_nodes _) trivial) rfl (by decide)
  exact nodes_of (node_at b1 rfl rfl rfl rfl (no_attrs _) k1 trivial) rfl (by decide)
set_option maxHeartbeats 16000000 in
theorem live15_any (w : World) (hE : EnvX w) : Calls Tryz.prog 39 #[] w fun e w' => e = .returned (.bool true) ∧ Below w.heap.size w w' := by
  have hl := (l15_blocks w).2.2.2.2
  have hn := live15_lit w
  have HK : Hid (∀ w', Below (l15W w).heap.size (l15W w) w' → Calls Tryz.prog 41 #[.slice (some ⟨w.heap.size + 1 + 1 + 1, 0, none⟩) 2 2] w' (fun e w'' => e = .returned (.string ⟨#[97, 60, 98, 60, 38]⟩) ∧ Below w'.heap.size w' w'') ∧
      Calls Tryz.prog 40 #[.slice (some ⟨w.heap.size + 1 + 1 + 1, 0, none⟩) 2 2] w' (fun e w'' => e = .returned (.string ⟨live15a.toArray⟩) ∧ Below w'.heap.size w' w'') ∧
      Calls Tryz.prog 38 #[.slice (some ⟨w.heap.size + 1 + 1 + 1, 0, none⟩) 2 2] w' (fun e w'' => e = .returned (.bool true) ∧ Below w'.heap.size w' w'') ∧ EnvX w' ∧ Below w.heap.size w w') := hide (fun w' hb => by
    have hE' := (hE.kept hl).kept hb
    have hn' := hn.kept hb
    refine ⟨?_, ?_, ?_, hE', bl_two hl hb⟩
    · have := serText_any _ t15a w' hn' (by decide) (by rw [x15a]; decide)
      rw [x15a] at this; exact this
    · have := serWrite_any _ t15a w' hE' hn' small15.1 (by decide) (by rw [w15a]; decide)
      rw [w15a] at this; exact this
    · have := serStable_any _ t15a w' hE' hn' small15.1 (by decide) (by rw [w15a]; decide)
      rw [s15a] at this; exact this)
  have HB0 := hide (Below.refl (l15W w).heap.size (l15W w))
  have hlw : live15a.toArray = #[60, 112, 32, 120, 61, 34, 38, 113, 117, 111, 116, 59, 34, 62, 97, 38, 108, 116, 59, 98, 60, 98, 114, 62, 60, 47, 112, 62, 60, 115, 116, 121, 108, 101, 62, 60, 38, 60, 47, 115, 116, 121, 108, 101, 62] := rfl
  rw [hlw] at HK
  clear hl hn hE hlw
  go_enter Tryz.func39, Tryz.ntmps39
  go_wp2_with fail
  refine (HK.out _ HB0.out).2.1.mono ?_
  rintro e w1 ⟨rfl, hb1⟩
  have HB1 := hide (bl_two HB0.out hb1)
  clear hb1
  go_wp2_with fail
  refine (HK.out _ HB1.out).1.mono ?_
  rintro e w2 ⟨rfl, hb2⟩
  have HB2 := hide (bl_two HB1.out hb2)
  clear hb2
  go_wp2_with fail
  refine (HK.out _ HB2.out).2.2.1.mono ?_
  rintro e w3 ⟨rfl, hb3⟩
  have HB3 := hide (bl_two HB2.out hb3)
  clear hb3
  have HE3 := hide (HK.out _ HB3.out).2.2.2.1
  have HL3 := hide (HK.out _ HB3.out).2.2.2.2
  obtain ⟨b0, b1, hl⟩ := l15b_blocks w3
  have HLB := hide hl
  have HSB := hide (serStable_any _ t15b (l15bW w3) (HE3.out.kept hl) (live15b_lit w3) small15.2.1 (by decide) small15.2.2)
  rw [s15b] at HSB
  clear b0 b1 hl
  go_wp2_with fail
  refine HSB.out.mono ?_
  rintro e w4 ⟨rfl, hb4⟩
  have HB4 := hide (bl_two (bl_two HL3.out HLB.out) hb4)
  clear hb4
  go_wp2_with fail
  go_ret
  exact ⟨rfl, HB4.out⟩
end Go.Proofs.YtgokefodmjhhiaaGreatDoor

