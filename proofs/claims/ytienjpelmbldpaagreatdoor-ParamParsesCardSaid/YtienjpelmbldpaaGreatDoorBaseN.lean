/- More of the first texts of this claim in one: each with its own head. No statement is proved here. -/
import Derived.Test.YtienjpelmbldpaaGreatDoorBaseM
import Derived.Deep.WholeRow
import Derived.Lib.SliceRun
import Derived.Defers
import Derived.Laws.Pointers
import Derived.Laws.LoneSync
import Derived.RegionTactic
import Derived.RegionCalls
import Derived.ChangeAlike
import Derived.Laws.NewBlocks
import Derived.Test.YtienjpelmbldpaaGreatDoorShelf
import Derived.Laws.Cover3
import Derived.Laws.Runes
import Derived.WalkMore
import Derived.Laws.RangeAny
import Derived.Shelf.Strings.IndexAnyAll
import Derived.Shelf.Strings.SlTrimAscii
import Derived.StillTailTactics
import Derived.Lib.SlTrimSet
import Derived.Lib.OthersKept
import Derived.Deep.Cut
/- The memory of strings.Replacer at quote's four texts. No statement is proved here. -/
namespace Go.Proofs.YtienjpelmbldpaaGreatDoor
open Go.RowKit
set_option linter.unusedVariables false
set_option linter.unusedSimpArgs false
set_option maxRecDepth 100000
/-- the four texts -/
def OldNew (g : Nat) (w : World) : Prop :=
  w.cell? ⟨g, 0, none⟩ = some (.string ⟨#[34]⟩) ∧ w.cell? ⟨g, 1, none⟩ = some (.string ⟨#[92, 34]⟩) ∧ w.cell? ⟨g, 2, none⟩ = some (.string ⟨#[92]⟩) ∧ w.cell? ⟨g, 3, none⟩ = some (.string ⟨#[92, 92]⟩)
def nilS : Value := .slice none 0 0
theorem zero_rep : Tryz.zeroCells156.toList = List.replicate 257 nilS := by kernel_rfl
/-- a replacer of two signs: block R; the texts to replace: block G -/
def RepSt (w0 : World) (R G : Nat) (c34 c92 : Value) (l : Nat) (x y : ByteArray) (wr : World) : Prop :=
  Below w0.heap.size w0 wr ∧ w0.heap.size ≤ R ∧ w0.heap.size ≤ G ∧ R ≠ G ∧
  (∀ i : Nat, i < 256 → wr.cell? ⟨R, i, none⟩ = some (if i = 34 then c34 else if i = 92 then c92 else nilS)) ∧ (∀ i : Nat, wr.frozen? ⟨R, i, none⟩ = false) ∧
  wr.cell? ⟨R, 256, none⟩ = some (.slice (some ⟨G, 0, none⟩) l 2) ∧ wr.cell? ⟨G, 0, none⟩ = some (.string x) ∧ wr.cell? ⟨G, 1, none⟩ = some (.string y) ∧ (∀ i : Nat, wr.frozen? ⟨G, i, none⟩ = false)
def TwoAt (w : World) (g : Nat) (x y : Int) (B : Nat) : Prop := w.cell? ⟨g, 0, none⟩ = some (.int .u8 x) ∧ w.cell? ⟨g, 1, none⟩ = some (.int .u8 y) ∧ B + 2 ≤ g

theorem ne_off {g i j : Nat} (h : i ≠ j) : (⟨g, i, none⟩ : Addr) ≠ ⟨g, j, none⟩ := fun e => h (by injection e)
theorem ne_blk {g g' i j : Nat} (h : g ≠ g') : (⟨g, i, none⟩ : Addr) ≠ ⟨g', j, none⟩ := fun e => h (by injection e)
section
variable {w0 wr : World} {R G l : Nat} {c34 c92 : Value} {x y : ByteArray}
theorem RepSt.ltR (h : RepSt w0 R G c34 c92 l x y wr) : R < wr.heap.size := World.block_lt_of_cell? wr _ h.2.2.2.2.2.2.1
theorem RepSt.ltG (h : RepSt w0 R G c34 c92 l x y wr) : G < wr.heap.size := World.block_lt_of_cell? wr _ h.2.2.2.2.2.2.2.1
theorem RepSt.below (h : RepSt w0 R G c34 c92 l x y wr) : Below w0.heap.size w0 wr := h.1
theorem RepSt.setG0 (h : RepSt w0 R G c34 c92 l x y wr) (x' : ByteArray) : RepSt w0 R G c34 c92 l x' y (wr.setCell ⟨G, 0, none⟩ (.string x')) := by
  obtain ⟨B0, hR, hG, hne, hc, hf, h256, hG0, hG1, hfG⟩ := h
  exact ⟨B0.setCell hG _, hR, hG, hne, fun i hi => (World.cell?_setCell_other _ _ _ _ (ne_blk hne.symm)).trans (hc i hi), fun i => by rw [World.frozen?_setCell]; exact hf i,
    (World.cell?_setCell_other _ _ _ _ (ne_blk hne.symm)).trans h256, World.cell?_setCell_same _ _ _ hG0, (World.cell?_setCell_other _ _ _ _ (ne_off (by decide))).trans hG1, fun i => by rw [World.frozen?_setCell]; exact hfG i⟩
theorem RepSt.setG1 (h : RepSt w0 R G c34 c92 l x y wr) (y' : ByteArray) : RepSt w0 R G c34 c92 l x y' (wr.setCell ⟨G, 1, none⟩ (.string y')) := by
  obtain ⟨B0, hR, hG, hne, hc, hf, h256, hG0, hG1, hfG⟩ := h
  exact ⟨B0.setCell hG _, hR, hG, hne, fun i hi => (World.cell?_setCell_other _ _ _ _ (ne_blk hne.symm)).trans (hc i hi), fun i => by rw [World.frozen?_setCell]; exact hf i,
    (World.cell?_setCell_other _ _ _ _ (ne_blk hne.symm)).trans h256, (World.cell?_setCell_other _ _ _ _ (ne_off (by decide))).trans hG0, World.cell?_setCell_same _ _ _ hG1, fun i => by rw [World.frozen?_setCell]; exact hfG i⟩
theorem RepSt.setL (h : RepSt w0 R G c34 c92 l x y wr) (l' : Nat) : RepSt w0 R G c34 c92 l' x y (wr.setCell ⟨R, 256, none⟩ (.slice (some ⟨G, 0, none⟩) l' 2)) := by
  obtain ⟨B0, hR, hG, hne, hc, hf, h256, hG0, hG1, hfG⟩ := h
  exact ⟨B0.setCell hR _, hR, hG, hne, fun i hi => (World.cell?_setCell_other _ _ _ _ (ne_off (by omega))).trans (hc i hi), fun i => by rw [World.frozen?_setCell]; exact hf i,
    World.cell?_setCell_same _ _ _ h256, (World.cell?_setCell_other _ _ _ _ (ne_blk hne)).trans hG0, (World.cell?_setCell_other _ _ _ _ (ne_blk hne)).trans hG1, fun i => by rw [World.frozen?_setCell]; exact hfG i⟩
theorem RepSt.set92 (h : RepSt w0 R G c34 c92 l x y wr) (v : Value) : RepSt w0 R G c34 v l x y (wr.setCell ⟨R, 92, none⟩ v) := by
  obtain ⟨B0, hR, hG, hne, hc, hf, h256, hG0, hG1, hfG⟩ := h
  refine ⟨B0.setCell hR _, hR, hG, hne, fun i hi => ?_, fun i => by rw [World.frozen?_setCell]; exact hf i,
    (World.cell?_setCell_other _ _ _ _ (ne_off (by decide))).trans h256, (World.cell?_setCell_other _ _ _ _ (ne_blk hne)).trans hG0, (World.cell?_setCell_other _ _ _ _ (ne_blk hne)).trans hG1, fun i => by rw [World.frozen?_setCell]; exact hfG i⟩
  by_cases e : i = 92
  · subst e
    exact World.cell?_setCell_same _ _ _ (hc 92 hi)
  · refine (World.cell?_setCell_other _ _ _ _ (ne_off (Ne.symm e))).trans ?_
    rw [hc i hi, if_neg e, if_neg e]
theorem RepSt.set34 (h : RepSt w0 R G c34 c92 l x y wr) (v : Value) : RepSt w0 R G v c92 l x y (wr.setCell ⟨R, 34, none⟩ v) := by
  obtain ⟨B0, hR, hG, hne, hc, hf, h256, hG0, hG1, hfG⟩ := h
  refine ⟨B0.setCell hR _, hR, hG, hne, fun i hi => ?_, fun i => by rw [World.frozen?_setCell]; exact hf i,
    (World.cell?_setCell_other _ _ _ _ (ne_off (by decide))).trans h256, (World.cell?_setCell_other _ _ _ _ (ne_blk hne)).trans hG0, (World.cell?_setCell_other _ _ _ _ (ne_blk hne)).trans hG1, fun i => by rw [World.frozen?_setCell]; exact hfG i⟩
  by_cases e : i = 34
  · subst e
    exact World.cell?_setCell_same _ _ _ (hc 34 hi)
  · refine (World.cell?_setCell_other _ _ _ _ (ne_off (Ne.symm e))).trans ?_
    rw [hc i hi, if_neg e, if_neg e]
theorem RepSt.kept {w' : World} (h : RepSt w0 R G c34 c92 l x y wr) (hb : Below wr.heap.size wr w') : RepSt w0 R G c34 c92 l x y w' := by
  have lR := h.ltR
  have lG := h.ltG
  obtain ⟨B0, hR, hG, hne, hc, hf, h256, hG0, hG1, hfG⟩ := h
  exact ⟨B0.trans (hb.mono (Nat.le_of_lt (Nat.lt_of_le_of_lt hR lR))), hR, hG, hne, fun i hi => (hb.cell (p := ⟨R, i, none⟩) lR).trans (hc i hi), fun i => (hb.frozen (p := ⟨R, i, none⟩) lR).trans (hf i),
    (hb.cell (p := ⟨R, 256, none⟩) lR).trans h256, (hb.cell (p := ⟨G, 0, none⟩) lG).trans hG0, (hb.cell (p := ⟨G, 1, none⟩) lG).trans hG1, fun i => (hb.frozen (p := ⟨G, i, none⟩) lG).trans (hfG i)⟩
theorem RepSt.alloc (h : RepSt w0 R G c34 c92 l x y wr) (o : Obj) : RepSt w0 R G c34 c92 l x y (wr.alloc o) := h.kept ((Below.refl _ wr).alloc (Nat.le_refl _) _)
end
theorem TwoAt.set {w : World} {g B : Nat} {x y : Int} (h : TwoAt w g x y B) {p : Addr} (hp : p.block ≠ g) (v : Value) : TwoAt (w.setCell p v) g x y B :=
  ⟨(World.cell?_setCell_other _ _ _ _ (fun e => hp (by rw [e]))).trans h.1, (World.cell?_setCell_other _ _ _ _ (fun e => hp (by rw [e]))).trans h.2.1, h.2.2⟩
theorem TwoAt.kept {w w' : World} {g B : Nat} {x y : Int} (h : TwoAt w g x y B) (hb : Below w.heap.size w w') : TwoAt w' g x y B := by
  have lg : g < w.heap.size := World.block_lt_of_cell? w _ h.1
  exact ⟨(hb.cell (p := ⟨g, 0, none⟩) lg).trans h.1, (hb.cell (p := ⟨g, 1, none⟩) lg).trans h.2.1, h.2.2⟩
theorem TwoAt.alloc {w : World} {g B : Nat} {x y : Int} (h : TwoAt w g x y B) (o : Obj) : TwoAt (w.alloc o) g x y B := h.kept ((Below.refl _ w).alloc (Nat.le_refl _) _)
/-- the row that []byte(s) of two bytes has made -/
theorem two_arr {w w5 : World} {g B : Nat} {a b : UInt8} (h : Arr w.heap.size g [a, b] w w5) (hB : B + 2 ≤ w.heap.size) : TwoAt w5 g a.toNat b.toNat B :=
  ⟨h.cell 0 (by simp), h.cell 1 (by simp), Nat.le_trans hB h.2.2.1⟩
/-- the replacer as it is built -/
def RepEnd (w0 : World) (R : Nat) (wr : World) : Prop :=
  ∃ G g1 c1 g2 c2 : Nat, RepSt w0 R G (.slice (some ⟨g1, 0, none⟩) 2 c1) (.slice (some ⟨g2, 0, none⟩) 2 c2) 2 ⟨#[92]⟩ ⟨#[34]⟩ wr ∧ TwoAt wr g1 92 34 w0.heap.size ∧ TwoAt wr g2 92 92 w0.heap.size
theorem RepEnd.below {w0 wr : World} {R : Nat} (h : RepEnd w0 R wr) : Below w0.heap.size w0 wr := by obtain ⟨_, _, _, _, _, h, _⟩ := h; exact h.below
theorem RepEnd.kept {w0 wr w' : World} {R : Nat} (h : RepEnd w0 R wr) (hb : Below wr.heap.size wr w') : RepEnd w0 R w' := by
  obtain ⟨G, g1, c1, g2, c2, h, t1, t2⟩ := h
  exact ⟨G, g1, c1, g2, c2, h.kept hb, t1.kept hb, t2.kept hb⟩
/-- the replacer as it is built, seen from an elder world W; block b, which holds its strings.Replacer, lies below its parts -/
def RepAt (W : World) (b R : Nat) (wr : World) : Prop :=
  ∃ G g1 c1 g2 c2 : Nat, RepSt W R G (.slice (some ⟨g1, 0, none⟩) 2 c1) (.slice (some ⟨g2, 0, none⟩) 2 c2) 2 ⟨#[92]⟩ ⟨#[34]⟩ wr ∧ TwoAt wr g1 92 34 0 ∧ TwoAt wr g2 92 92 0 ∧ W.heap.size ≤ b ∧ b < R ∧ b < G ∧ b < g1 ∧ b < g2
theorem RepEnd.at {W w0 wr : World} {R b : Nat} (h : RepEnd w0 R wr) (hb : Below W.heap.size W w0) (hW : W.heap.size ≤ b) (hl : b < w0.heap.size) : RepAt W b R wr := by
  obtain ⟨G, g1, c1, g2, c2, ⟨B0, hR, hG, hr⟩, t1, t2⟩ := h
  exact ⟨G, g1, c1, g2, c2, ⟨hb.trans (B0.mono hb.size), Nat.le_trans hb.size hR, Nat.le_trans hb.size hG, hr⟩, ⟨t1.1, t1.2.1, by have := t1.2.2; omega⟩, ⟨t2.1, t2.2.1, by have := t2.2.2; omega⟩, hW, by omega, by omega, by have := t1.2.2; omega, by have := t2.2.2; omega⟩
theorem RepAt.below {W wr : World} {b R : Nat} (h : RepAt W b R wr) : Below W.heap.size W wr := by obtain ⟨_, _, _, _, _, h, _⟩ := h; exact h.below
theorem RepAt.set {W wr : World} {b R : Nat} (h : RepAt W b R wr) (i : Nat) (v : Value) : RepAt W b R (wr.setCell ⟨b, i, none⟩ v) := by
  obtain ⟨G, g1, c1, g2, c2, ⟨B0, hR, hG, hne, hc, hf, h256, hG0, hG1, hfG⟩, t1, t2, hW, l1, l2, l3, l4⟩ := h
  have nR : b ≠ R := Nat.ne_of_lt l1
  have nG : b ≠ G := Nat.ne_of_lt l2
  exact ⟨G, g1, c1, g2, c2, ⟨B0.setCell hW _, hR, hG, hne, fun j hj => (World.cell?_setCell_other _ _ _ _ (ne_blk nR)).trans (hc j hj), fun j => by rw [World.frozen?_setCell]; exact hf j,
    (World.cell?_setCell_other _ _ _ _ (ne_blk nR)).trans h256, (World.cell?_setCell_other _ _ _ _ (ne_blk nG)).trans hG0, (World.cell?_setCell_other _ _ _ _ (ne_blk nG)).trans hG1, fun j => by rw [World.frozen?_setCell]; exact hfG j⟩,
    t1.set (p := ⟨b, i, none⟩) (Nat.ne_of_lt l3) v, t2.set (p := ⟨b, i, none⟩) (Nat.ne_of_lt l4) v, hW, l1, l2, l3, l4⟩
theorem RepAt.kept {W wr w' : World} {b R : Nat} (h : RepAt W b R wr) (hb : Below wr.heap.size wr w') : RepAt W b R w' := by
  obtain ⟨G, g1, c1, g2, c2, h, t1, t2, hr⟩ := h
  exact ⟨G, g1, c1, g2, c2, h.kept hb, t1.kept hb, t2.kept hb, hr⟩
theorem RepAt.drew {W wr : World} {b R : Nat} (h : RepAt W b R wr) : RepAt W b R wr.drew := h.kept ((Below.refl _ wr).drew)
/-- a strings.Replacer that has replaced nothing yet -/
def NewAt (b : Nat) (w : World) : Prop :=
  w.cell? ⟨b, 0, none⟩ = some (.int .u32 0) ∧ w.cell? ⟨b, 1, none⟩ = some (.int .i32 0) ∧ w.cell? ⟨b, 3, none⟩ = some .nilIface ∧ (∀ i : Nat, w.frozen? ⟨b, i, none⟩ = false) ∧ ∃ g c : Nat, w.cell? ⟨b, 4, none⟩ = some (.slice (some ⟨g, 0, none⟩) 4 c) ∧ OldNew g w ∧ b ≠ g
/-- the replacer as it is made -/
theorem RepSt.start (w : World) (t1 t2 : TypeId) : RepSt w (w.heap.size + 1) w.heap.size nilS nilS 0 ⟨#[]⟩ ⟨#[]⟩
    ((w.alloc (.cells #[.string ⟨#[]⟩, .string ⟨#[]⟩] t1)).alloc (.cells (List.replicate 256 nilS ++ [Value.slice (some ⟨w.heap.size, 0, none⟩) 0 2]).toArray t2)) := by
  have es : (w.alloc (.cells #[.string ⟨#[]⟩, .string ⟨#[]⟩] t1)).heap.size = w.heap.size + 1 := World.size_alloc ..
  have lG : w.heap.size < (w.alloc (.cells #[.string ⟨#[]⟩, .string ⟨#[]⟩] t1)).heap.size := by rw [es]; omega
  refine ⟨((Below.refl _ w).alloc (Nat.le_refl _) _).alloc (Nat.le_of_lt lG) _, Nat.le_succ _, Nat.le_refl _, by omega, fun i hi => ?_, fun i => ?_, ?_, ?_, ?_, fun i => ?_⟩
  · rw [World.cell?_alloc_at _ _ _ _ es.symm, List.getElem?_toArray, List.getElem?_append_left (by rw [List.length_replicate]; exact hi), List.getElem?_replicate, if_pos hi]
    simp
  · exact World.frozen?_alloc_at _ _ _ _ es.symm
  · rw [World.cell?_alloc_at _ _ _ _ es.symm, List.getElem?_toArray, List.getElem?_append_right (by rw [List.length_replicate]; exact Nat.le_refl _), List.length_replicate]
    rfl
  · rw [World.cell?_alloc_past _ _ _ lG, World.cell?_alloc_at _ _ _ _ rfl]; rfl
  · rw [World.cell?_alloc_past _ _ _ lG, World.cell?_alloc_at _ _ _ _ rfl]; rfl
  · rw [World.frozen?_alloc_past _ _ _ lG]; exact World.frozen?_alloc_at _ _ _ _ rfl
theorem str92 : strOfNums [(((⟨#[92]⟩ : ByteArray)[0]'(by decide)).toNat : Int)] = ⟨#[92]⟩ := nums_str (l := [92]) rfl
theorem str34 : strOfNums [(((⟨#[34]⟩ : ByteArray)[0]'(by decide)).toNat : Int)] = ⟨#[34]⟩ := nums_str (l := [34]) rfl
end Go.Proofs.YtienjpelmbldpaaGreatDoor

/- WALKS of strings.Replacer's build at quote's four texts. No statement is proved here. -/
namespace Go.Proofs.YtienjpelmbldpaaGreatDoor
open Go.RowKit
set_option linter.unusedVariables false
set_option linter.unusedSimpArgs false
set_option maxRecDepth 100000
theorem made_two (w : World) : (Instr.makeSlice 39 (.int .i64 0) (.int .i64 2)).run Tryz.prog w = .ok (.slice (some ⟨w.heap.size, 0, none⟩) 0 2) (w.alloc (.cells #[.string ⟨#[]⟩, .string ⟨#[]⟩] 9)) := by
  obtain ⟨i0, hi, hz0, hz1, hz2⟩ := info_parts info_str
  have h := run_make (P := Tryz.prog) w 39 9 i0 _ Tryz.underlying39 hi hz0 .i64 .i64 0 2 (by omega) (by omega) (by rw [hz2]; omega) (by omega)
  rw [hz1] at h
  rw [h]
  have e : madeCells (Value.string ByteArray.empty).cells (Int.toNat 2 * 1) = #[.string ⟨#[]⟩, .string ⟨#[]⟩] := by
    show madeCells #[.string ByteArray.empty] 2 = _
    have e0 : Array.range 0 = (#[] : Array Nat) := by simp [Array.range]
    simp [madeCells, Array.range_succ, e0]
    rfl
  rw [e]; rfl
theorem store_rep (w : World) (sl : Value) (h1 : sl.oneCell' = true) : 
    (storeCells ⟨w.heap.size, 0, none⟩ (Tryz.zeroCells156.toList.set 256 sl) 0).run Tryz.prog (w.alloc (.cells Tryz.zeroCells156 156)) = .ok () (w.alloc (.cells (List.replicate 256 nilS ++ [sl]).toArray 156)) := by
  have e : Tryz.zeroCells156.toList.set 256 sl = List.replicate 256 nilS ++ [sl] := by
    rw [zero_rep, show (257 : Nat) = 256 + 1 from rfl, List.replicate_succ', List.set_append_right _ _ (by simp)]
    simp
  have hl : Tryz.zeroCells156.size = 257 := by rw [← Array.length_toList, zero_rep, List.length_replicate]
  have h := run_storeCells_new (P := Tryz.prog) w 156 Tryz.zeroCells156 (List.replicate 256 nilS ++ [sl]).toArray (by
    rw [show (List.replicate 256 nilS ++ [sl]).toArray.size = 257 by simp]; kernel_rfl) (by rw [hl]; simp) (by
    rw [List.all_toArray, List.all_append, Bool.and_eq_true]
    exact ⟨by rw [List.all_replicate]; rfl, by simp [h1]⟩)
  rw [e]
  exact h
set_option maxHeartbeats 1600000 in
theorem build_any (b g c : Nat) (w : World) (ho : w.cell? ⟨b, 4, none⟩ = some (.slice (some ⟨g, 0, none⟩) 4 c)) (hg : OldNew g w) :
    Calls Tryz.prog 140 #[.pointer (some ⟨b, 0, none⟩)] w fun e w' => e = .returned (.iface 157 (.pointer (some ⟨w.heap.size + 1, 0, none⟩))) ∧ RepEnd w (w.heap.size + 1) w' := by
  obtain ⟨h0, h1, h2, h3⟩ := hg
  have hgl : g < w.heap.size := World.block_lt_of_cell? w _ h0
  go_enter Tryz.func140, Tryz.ntmps140
  go_wp2_with fail
  go_loop [4, 5] (fun a i => (i = .int .i64 0 ∧ a = .bool true) ∨ (i = .int .i64 2 ∧ a = .bool false) ∨ (i = .int .i64 4 ∧ a = .bool false)) (fun _ i => 4 - (intOf i).toNat)
  case atStart => exact .inl ⟨rfl, rfl⟩
  case round =>
    rcases hrel with ⟨rfl, rfl⟩ | ⟨rfl, rfl⟩ | ⟨rfl, rfl⟩
    · go_wp2_with fail
      exact ⟨.inr (.inl ⟨rfl, rfl⟩), by decide⟩
    · go_wp2_with fail
      exact ⟨.inr (.inr ⟨rfl, rfl⟩), by decide⟩
    · have hms := made_two w
      have hst := store_rep (w.alloc (.cells #[.string ⟨#[]⟩, .string ⟨#[]⟩] 9)) (.slice (some ⟨w.heap.size, 0, none⟩) 0 2) rfl
      rw [World.size_alloc] at hst
      go_wp2_with fail
      go_loopw [12] (fun i wr => (i = .int .i64 2 ∧ Hid (RepSt w (w.heap.size + 1) w.heap.size nilS nilS 0 ⟨#[]⟩ ⟨#[]⟩ wr)) ∨
        (i = .int .i64 0 ∧ ∃ g2 c2 : Nat, Hid (RepSt w (w.heap.size + 1) w.heap.size nilS (.slice (some ⟨g2, 0, none⟩) 2 c2) 1 ⟨#[92]⟩ ⟨#[]⟩ wr ∧ TwoAt wr g2 92 92 w.heap.size)) ∨
        (i = .int .i64 (-2) ∧ Hid (∃ g1 c1 g2 c2 : Nat, RepSt w (w.heap.size + 1) w.heap.size (.slice (some ⟨g1, 0, none⟩) 2 c1) (.slice (some ⟨g2, 0, none⟩) 2 c2) 2 ⟨#[92]⟩ ⟨#[34]⟩ wr ∧ TwoAt wr g1 92 34 w.heap.size ∧ TwoAt wr g2 92 92 w.heap.size))) (fun i _ => (intOf i + 2).toNat)
      case atStart => exact .inl ⟨rfl, hide (RepSt.start _ _ _)⟩
      case round =>
        rcases hrel with ⟨rfl, HS⟩ | ⟨rfl, g2, c2, HS⟩ | ⟨rfl, HS⟩
        · obtain ⟨B0, hR, hG, hne, hc, hf, h256, hG0, hG1, hfG⟩ := HS.out
          have h92 : wr.cell? ⟨w.heap.size + 1, ((⟨#[92]⟩ : ByteArray)[0]'(by decide)).toNat, none⟩ = some (.slice none 0 0) := hc 92 (by decide)
          have z92 : wr.frozen? ⟨w.heap.size + 1, ((⟨#[92]⟩ : ByteArray)[0]'(by decide)).toNat, none⟩ = false := hf 92
          have z256 := hf 256
          have hnil : ∀ w1, (binOp .eql 50 (.slice none 0 0) (.slice none 0 0)).run Tryz.prog w1 = .ok (.bool true) w1 := fun w1 => Go.Lib.run_eql_slice_nil w1 50 5 none 0 0 0 0 Tryz.underlying50
          have hGl : w.heap.size < wr.heap.size := World.block_lt_of_cell? wr _ hG0
          have hRl : w.heap.size + 1 < wr.heap.size := World.block_lt_of_cell? wr _ h256
          have hggl : g < wr.heap.size := Nat.lt_trans hgl hGl
          have l1 := Nat.lt_succ_of_lt hGl
          have l2 := Nat.lt_succ_of_lt l1
          have l3 := Nat.lt_succ_of_lt hRl
          have l4 := Nat.lt_succ_of_lt l3
          have hcv := conv1 wr (((⟨#[92]⟩ : ByteArray)[0]'(by decide)).toNat : Int)
          have zG0 := hfG 0
          have e2 : wr.cell? ⟨g, 2, none⟩ = some (.string ⟨#[92]⟩) := (B0.cell (p := ⟨g, 2, none⟩) hgl).trans h2
          have e3 : wr.cell? ⟨g, 3, none⟩ = some (.string ⟨#[92, 92]⟩) := (B0.cell (p := ⟨g, 3, none⟩) hgl).trans h3
          have HS1 := hide ((HS.out.setG0 ⟨#[92]⟩).setL 1)
          have e92 := str92
          go_wp2_with (refine wpList_bytes rfl _ rfl ⟨#[92, 92]⟩ rfl ?_; intro cap w5 ha; have HS5 := hide (((HS1.out.alloc _).alloc _).kept ha.below); have HT5 := hide (two_arr (B := w.heap.size) ha (by rw [World.size_alloc, World.size_alloc, World.size_setCell, World.size_setCell]; omega)); rw [World.size_alloc, World.size_alloc, World.size_setCell, World.size_setCell] at HT5; clear ha; have k92 : w5.cell? ⟨w.heap.size + 1, ((⟨#[92]⟩ : ByteArray)[0]'(by decide)).toNat, none⟩ = some (.slice none 0 0) := HS5.out.2.2.2.2.1 92 (by decide); have y92 : w5.frozen? ⟨w.heap.size + 1, ((⟨#[92]⟩ : ByteArray)[0]'(by decide)).toNat, none⟩ = false := HS5.out.2.2.2.2.2.1 92)
          exact ⟨.inr (.inl ⟨rfl, _, cap, hide ⟨HS5.out.set92 _, HT5.out.set (by show w.heap.size + 1 ≠ wr.heap.size + 1 + 1; omega) _⟩⟩), by decide⟩
        · obtain ⟨B0, hR, hG, hne, hc, hf, h256, hG0, hG1, hfG⟩ := HS.out.1
          have HT := hide HS.out.2
          have h92 : wr.cell? ⟨w.heap.size + 1, ((⟨#[34]⟩ : ByteArray)[0]'(by decide)).toNat, none⟩ = some (.slice none 0 0) := hc 34 (by decide)
          have z92 : wr.frozen? ⟨w.heap.size + 1, ((⟨#[34]⟩ : ByteArray)[0]'(by decide)).toNat, none⟩ = false := hf 34
          have z256 := hf 256
          have hnil : ∀ w1, (binOp .eql 50 (.slice none 0 0) (.slice none 0 0)).run Tryz.prog w1 = .ok (.bool true) w1 := fun w1 => Go.Lib.run_eql_slice_nil w1 50 5 none 0 0 0 0 Tryz.underlying50
          have hGl : w.heap.size < wr.heap.size := World.block_lt_of_cell? wr _ hG0
          have hRl : w.heap.size + 1 < wr.heap.size := World.block_lt_of_cell? wr _ h256
          have hggl : g < wr.heap.size := Nat.lt_trans hgl hGl
          have l1 := Nat.lt_succ_of_lt hGl
          have l2 := Nat.lt_succ_of_lt l1
          have l3 := Nat.lt_succ_of_lt hRl
          have l4 := Nat.lt_succ_of_lt l3
          have hcv := conv1 wr (((⟨#[34]⟩ : ByteArray)[0]'(by decide)).toNat : Int)
          have zG0 := hfG 1
          have e2 : wr.cell? ⟨g, 0, none⟩ = some (.string ⟨#[34]⟩) := (B0.cell (p := ⟨g, 0, none⟩) hgl).trans h0
          have e3 : wr.cell? ⟨g, 1, none⟩ = some (.string ⟨#[92, 34]⟩) := (B0.cell (p := ⟨g, 1, none⟩) hgl).trans h1
          have HS1 := hide ((HS.out.1.setG1 ⟨#[34]⟩).setL 2)
          have e92 := str34
          go_wp2_with (refine wpList_bytes rfl _ rfl ⟨#[92, 34]⟩ rfl ?_; intro cap w5 ha; have HS5 := hide (((HS1.out.alloc _).alloc _).kept ha.below); have HT5 := hide (two_arr (B := w.heap.size) ha (by rw [World.size_alloc, World.size_alloc, World.size_setCell, World.size_setCell]; omega)); rw [World.size_alloc, World.size_alloc, World.size_setCell, World.size_setCell] at HT5; have HT6 := hide (((((HT.out.set (p := ⟨w.heap.size, 1, none⟩) (by have := HT.out.2.2; show w.heap.size ≠ g2; omega) _).set (p := ⟨w.heap.size + 1, 256, none⟩) (by have := HT.out.2.2; show w.heap.size + 1 ≠ g2; omega) _).alloc _).alloc _).kept ha.below); clear ha; have k92 : w5.cell? ⟨w.heap.size + 1, ((⟨#[34]⟩ : ByteArray)[0]'(by decide)).toNat, none⟩ = some (.slice none 0 0) := HS5.out.2.2.2.2.1 34 (by decide); have y92 : w5.frozen? ⟨w.heap.size + 1, ((⟨#[34]⟩ : ByteArray)[0]'(by decide)).toNat, none⟩ = false := HS5.out.2.2.2.2.2.1 34)
          exact ⟨.inr (.inr ⟨rfl, hide ⟨_, cap, g2, c2, HS5.out.set34 _, HT5.out.set (by show w.heap.size + 1 ≠ wr.heap.size + 1 + 1; omega) _, HT6.out.set (by have := HT6.out.2.2; show w.heap.size + 1 ≠ g2; omega) _⟩⟩), by decide⟩
        · have HE : Hid (RepEnd w (w.heap.size + 1) wr) := hide ⟨_, HS.out⟩
          go_wp2_with fail
          go_ret
          exact ⟨rfl, HE.out⟩
end Go.Proofs.YtienjpelmbldpaaGreatDoor

/- WALKS of sync.Once in one goroutine: Do with a function that the caller knows by a contract. No statement is proved here. -/
namespace Go.Proofs.YtienjpelmbldpaaGreatDoor
open Go.RowKit
set_option linter.unusedVariables false
set_option linter.unusedSimpArgs false
set_option maxRecDepth 100000

theorem race_off (w : World) : (callFunc 174 #[]).run Tryz.prog w = .ok (.value (.tuple #[])) w := run_call_mark0 Tryz.func174 (by kernel_rfl) (by kernel_rfl) (by kernel_rfl) .disable (by kernel_rfl) w
theorem race_on (w : World) : (callFunc 176 #[]).run Tryz.prog w = .ok (.value (.tuple #[])) w := run_call_mark0 Tryz.func176 (by kernel_rfl) (by kernel_rfl) (by kernel_rfl) .enable (by kernel_rfl) w
theorem race_got (a : Addr) (w : World) : (callFunc 177 #[.pointer (some a)]).run Tryz.prog w = .ok (.value (.tuple #[])) w := run_call_marked Tryz.func177 (by kernel_rfl) (by kernel_rfl) (by kernel_rfl) .acquire (by kernel_rfl) a w
theorem race_let (a : Addr) (w : World) : (callFunc 179 #[.pointer (some a)]).run Tryz.prog w = .ok (.value (.tuple #[])) w := run_call_marked Tryz.func179 (by kernel_rfl) (by kernel_rfl) (by kernel_rfl) .releaseMerge (by kernel_rfl) a w

/-- the Once's word is set, as a deferred call -/
theorem done_set (a : Addr) (x : Value) (u : FrameMode) (w : World) (hc : w.cell? a = some x) (hz : w.frozen? a = false) :
    CallsD Tryz.prog 153 #[.pointer (some a), .bool true] u w fun e u' w' => u' = u ∧ (e = .returned (.tuple #[]) ∧ w' = w.drew.setCell a (.int .u32 1)) := by
  have hc' : w.drew.cell? a = some x := by go_simp
  have hz' : w.drew.frozen? a = false := by go_simp
  have hst := run_call_store (P := Tryz.prog) Tryz.func164 (by kernel_rfl) (by kernel_rfl) (by kernel_rfl) (by kernel_rfl) (k := .u32) (y := 1) hc' hz'
  go_enter_d Tryz.func153, Tryz.ntmps153
  go_wp2
  go_region_calls
  all_goals (go_end0; exact ⟨rfl, rfl⟩)

/-- the lock is let go, as a deferred call -/
theorem lock_let (a : Addr) (u : FrameMode) (w : World) (hc : w.cell? a = some (.int .i32 1)) (hz : w.frozen? a = false) :
    CallsD Tryz.prog 152 #[.pointer (some a)] u w fun e u' w' => u' = u ∧ (e = .returned (.tuple #[]) ∧ w' = w.setCell a (.int .i32 0)) := by
  have hd := race_off
  have he := race_on
  have hr := race_let
  have hadd := run_call_add (P := Tryz.prog) Tryz.func180 (by kernel_rfl) (by kernel_rfl) (by kernel_rfl) .i32 (by kernel_rfl) (y := -1) (s := 0) hc hz (by simp [go_sem]; rfl)
  have hcv := run_convert_to_unsafe (P := Tryz.prog) (src := 183) (dst := 87) Tryz.underlying183 Tryz.underlying87 (by kernel_rfl) hc
  go_enter_d Tryz.func152, Tryz.ntmps152
  go_wp2
  go_end0
  go_wp2
  go_end0
  exact ⟨rfl, rfl⟩

/-- the lock, free: taken -/
theorem lock_got (a : Addr) (w : World) (hc : w.cell? a = some (.int .i32 0)) (hz : w.frozen? a = false) :
    Calls Tryz.prog 151 #[.pointer (some a)] w fun e w' => e = .returned (.tuple #[]) ∧ w' = w.setCell a (.int .i32 1) := by
  have hd := race_off
  have he := race_on
  have ha := race_got
  have hcas := run_call_cas_hit (P := Tryz.prog) Tryz.func175 (by kernel_rfl) (by kernel_rfl) (by kernel_rfl) .i32 (by kernel_rfl) (y := 1) hc hz
  have hc' : (w.setCell a (.int .i32 1)).cell? a = some (.int .i32 1) := World.cell?_setCell_same w a _ hc
  have hcv := run_convert_to_unsafe (P := Tryz.prog) (src := 183) (dst := 87) Tryz.underlying183 Tryz.underlying87 (by kernel_rfl) hc'
  go_enter Tryz.func151, Tryz.ntmps151
  go_wp2
  first | go_end0 | (simp only [Exit.inBlock, Exit.then]; refine bodyPost_ret (results_none rfl _ _ _) rfl ?_) | refine bodyPost_ret (results_none rfl _ _ _) rfl ?_
  go_wp2
  go_end0
  exact ⟨rfl, rfl⟩
end Go.Proofs.YtienjpelmbldpaaGreatDoor

/- WALKS of sync.Once.Do with strings.Replacer's buildOnce, not yet done. No statement is proved here. -/
namespace Go.Proofs.YtienjpelmbldpaaGreatDoor
open Go.RowKit
set_option linter.unusedVariables false
set_option linter.unusedSimpArgs false
set_option maxRecDepth 100000

theorem done_get (a : Addr) (w : World) (h0 : w.cell? a = some (.int .u32 0)) :
    Calls Tryz.prog 138 #[.pointer (some a)] w fun e w' => e = .returned (.bool false) ∧ w = w' := by
  have hl := run_call_load (P := Tryz.prog) Tryz.func150 (by kernel_rfl) (by kernel_rfl) (by kernel_rfl) .u32 (by kernel_rfl) h0
  go_enter Tryz.func138, Tryz.ntmps138
  go_wp2
  go_ret
  exact ⟨rfl, rfl⟩

set_option maxHeartbeats 1600000 in
theorem slow_build (b : Nat) (w : World) (Q : World → Prop)
    (h0 : w.cell? ⟨b, 0, none⟩ = some (.int .u32 0)) (h1 : w.cell? ⟨b, 1, none⟩ = some (.int .i32 0)) (f0 : w.frozen? ⟨b, 0, none⟩ = false) (f1 : w.frozen? ⟨b, 1, none⟩ = false)
    (hC : Calls Tryz.prog 117 #[.pointer (some ⟨b, 0, none⟩)] (w.setCell ⟨b, 1, none⟩ (.int .i32 1)) fun e w' => e = .returned (.tuple #[]) ∧ Q w')
    (hQ : ∀ w', Q w' → w'.cell? ⟨b, 0, none⟩ = some (.int .u32 0) ∧ w'.cell? ⟨b, 1, none⟩ = some (.int .i32 1) ∧ w'.frozen? ⟨b, 0, none⟩ = false ∧ w'.frozen? ⟨b, 1, none⟩ = false) :
    Calls Tryz.prog 139 #[.pointer (some ⟨b, 0, none⟩), .func (.func 117) #[.pointer (some ⟨b, 0, none⟩)] #[]] w fun e w' => e = .returned (.tuple #[]) ∧
      ∃ w1, Q w1 ∧ w' = (w1.drew.setCell ⟨b, 0, none⟩ (.int .u32 1)).setCell ⟨b, 1, none⟩ (.int .i32 0) := by
  have hd1 : (w.setCell ⟨b, 1, none⟩ (.int .i32 1)).cell? ⟨b, 0, none⟩ = some (.int .u32 0) := (World.cell?_setCell_other _ ⟨b, 1, none⟩ ⟨b, 0, none⟩ _ (by simp)).trans h0
  have hnot : ∀ (x : Bool) (w : World), (Op.unary .not (.bool x)).run Tryz.prog w = .ok (.bool (!x)) w := fun _ _ => rfl
  go_enter_defers Tryz.func139, Tryz.ntmps139
  go_wp2_with (go_at_call 151; refine (lock_got ⟨b, 1, none⟩ _ (by go_simp) (by go_simp)).mono ?_; rintro e w' ⟨rfl, rfl⟩)
  go_wp2_with (first
    | (go_at_call 138; refine (done_get ⟨b, 0, none⟩ _ hd1).mono ?_; rintro e w' ⟨rfl, rfl⟩)
    | (go_at_call 117; refine hC.mono ?_; rintro e w2 ⟨rfl, hq⟩))
  refine leaves_cons (f := 153) (args := #[.pointer (some ⟨b, 0, none⟩), .bool true]) (by simp) (by simp [go_sem]) ?_
  refine (done_set ⟨b, 0, none⟩ (.int .u32 0) .returning _ (hQ _ hq).1 (hQ _ hq).2.2.1).mono ?_
  rintro e u' w'' ⟨rfl, rfl, rfl⟩
  refine leaves_cons (f := 152) (args := #[.pointer (some ⟨b, 1, none⟩)]) (by simp [settle]) (by simp [go_sem]) ?_
  refine (lock_let ⟨b, 1, none⟩ _ _ ?_ ?_).mono ?_
  · refine (World.cell?_setCell_other _ ⟨b, 0, none⟩ ⟨b, 1, none⟩ _ (by simp)).trans ?_
    rw [World.cell?_drew]
    exact (hQ _ hq).2.1
  · simp [(hQ _ hq).2.2.2]
  rintro e u' w'' ⟨rfl, rfl, rfl⟩
  simp [Leaves, settle, results, Tryz.results139]
  exact ⟨w2, hq, rfl⟩

set_option maxHeartbeats 1600000 in
theorem once_build (b : Nat) (w : World) (Q : World → Prop)
    (h0 : w.cell? ⟨b, 0, none⟩ = some (.int .u32 0)) (h1 : w.cell? ⟨b, 1, none⟩ = some (.int .i32 0)) (f0 : w.frozen? ⟨b, 0, none⟩ = false) (f1 : w.frozen? ⟨b, 1, none⟩ = false)
    (hC : Calls Tryz.prog 117 #[.pointer (some ⟨b, 0, none⟩)] (w.setCell ⟨b, 1, none⟩ (.int .i32 1)) fun e w' => e = .returned (.tuple #[]) ∧ Q w')
    (hQ : ∀ w', Q w' → w'.cell? ⟨b, 0, none⟩ = some (.int .u32 0) ∧ w'.cell? ⟨b, 1, none⟩ = some (.int .i32 1) ∧ w'.frozen? ⟨b, 0, none⟩ = false ∧ w'.frozen? ⟨b, 1, none⟩ = false) :
    Calls Tryz.prog 116 #[.pointer (some ⟨b, 0, none⟩), .func (.func 117) #[.pointer (some ⟨b, 0, none⟩)] #[]] w fun e w' => e = .returned (.tuple #[]) ∧
      ∃ w1, Q w1 ∧ w' = (w1.drew.setCell ⟨b, 0, none⟩ (.int .u32 1)).setCell ⟨b, 1, none⟩ (.int .i32 0) := by
  have hnot : ∀ (x : Bool) (w : World), (Op.unary .not (.bool x)).run Tryz.prog w = .ok (.bool (!x)) w := fun _ _ => rfl
  go_enter Tryz.func116, Tryz.ntmps116
  go_wp2_with (first
    | (go_at_call 138; refine (done_get ⟨b, 0, none⟩ _ h0).mono ?_; rintro e w' ⟨rfl, rfl⟩)
    | (go_at_call 139; refine (slow_build b _ Q h0 h1 f0 f1 hC hQ).mono ?_; rintro e w' ⟨rfl, hq⟩))
  go_end0
  exact ⟨rfl, hq⟩
end Go.Proofs.YtienjpelmbldpaaGreatDoor

/- WALKS of strings.Replacer's buildOnce and of its Do. No statement is proved here. -/
namespace Go.Proofs.YtienjpelmbldpaaGreatDoor
open Go.RowKit
set_option linter.unusedVariables false
set_option linter.unusedSimpArgs false
set_option maxRecDepth 100000
/-- behind buildOnce -/
def BuiltQ (W : World) (b : Nat) (w w' : World) : Prop :=
  RepAt W b (w.heap.size + 1) w' ∧ w'.cell? ⟨b, 3, none⟩ = some (.iface 157 (.pointer (some ⟨w.heap.size + 1, 0, none⟩))) ∧
  w'.cell? ⟨b, 0, none⟩ = some (.int .u32 0) ∧ w'.cell? ⟨b, 1, none⟩ = some (.int .i32 1) ∧ w'.frozen? ⟨b, 0, none⟩ = false ∧ w'.frozen? ⟨b, 1, none⟩ = false
set_option maxHeartbeats 1600000 in
theorem buildOnce_any (b g c : Nat) (W w : World) (hW : Below W.heap.size W w) (hWb : W.heap.size ≤ b) (h0 : w.cell? ⟨b, 0, none⟩ = some (.int .u32 0)) (h1 : w.cell? ⟨b, 1, none⟩ = some (.int .i32 1)) (h3 : w.cell? ⟨b, 3, none⟩ = some .nilIface)
    (hf : ∀ i : Nat, w.frozen? ⟨b, i, none⟩ = false) (h4 : w.cell? ⟨b, 4, none⟩ = some (.slice (some ⟨g, 0, none⟩) 4 c)) (hg : OldNew g w) :
    Calls Tryz.prog 117 #[.pointer (some ⟨b, 0, none⟩)] w fun e w' => e = .returned (.tuple #[]) ∧ BuiltQ W b w w' := by
  have hbl : b < w.heap.size := World.block_lt_of_cell? w _ h0
  go_enter Tryz.func117, Tryz.ntmps117
  go_wp2_with (go_at_call 140; refine (build_any b g c _ h4 hg).mono ?_; rintro e w2 ⟨rfl, hr⟩; have HR := hide hr; have hb2 := hr.below; have k3 := (hb2.cell (p := ⟨b, 3, none⟩) hbl).trans h3; have k4 := (hb2.cell (p := ⟨b, 4, none⟩) hbl).trans h4; have z3 := (hb2.frozen (p := ⟨b, 3, none⟩) hbl).trans (hf 3); have z4 := (hb2.frozen (p := ⟨b, 4, none⟩) hbl).trans (hf 4); have HB2 := hide hb2; clear hr hb2)
  go_end0
  have k0 := (HB2.out.cell (p := ⟨b, 0, none⟩) hbl).trans h0
  have k1 := (HB2.out.cell (p := ⟨b, 1, none⟩) hbl).trans h1
  have z0 := (HB2.out.frozen (p := ⟨b, 0, none⟩) hbl).trans (hf 0)
  have z1 := (HB2.out.frozen (p := ⟨b, 1, none⟩) hbl).trans (hf 1)
  refine ⟨rfl, ((HR.out.at hW hWb hbl).set 3 _).set 4 _, ?_, ?_, ?_, ?_, ?_⟩
  · exact (World.cell?_setCell_other _ _ _ _ (ne_off (by decide))).trans (World.cell?_setCell_same _ _ _ k3)
  · exact ((World.cell?_setCell_other _ _ _ _ (ne_off (by decide))).trans (World.cell?_setCell_other _ _ _ _ (ne_off (by decide)))).trans k0
  · exact ((World.cell?_setCell_other _ _ _ _ (ne_off (by decide))).trans (World.cell?_setCell_other _ _ _ _ (ne_off (by decide)))).trans k1
  · rw [World.frozen?_setCell, World.frozen?_setCell]; exact z0
  · rw [World.frozen?_setCell, World.frozen?_setCell]; exact z1
theorem do_build (b : Nat) (W w : World) (hW : Below W.heap.size W w) (hWb : W.heap.size ≤ b) (hn : NewAt b w) :
    Calls Tryz.prog 116 #[.pointer (some ⟨b, 0, none⟩), .func (.func 117) #[.pointer (some ⟨b, 0, none⟩)] #[]] w fun e w' => e = .returned (.tuple #[]) ∧
      RepAt W b (w.heap.size + 1) w' ∧ w'.cell? ⟨b, 3, none⟩ = some (.iface 157 (.pointer (some ⟨w.heap.size + 1, 0, none⟩))) := by
  obtain ⟨h0, h1, h3, hf, g, c, h4, ⟨o0, o1, o2, o3⟩, hbg⟩ := hn
  have es : (w.setCell ⟨b, 1, none⟩ (.int .i32 1)).heap.size = w.heap.size := World.size_setCell ..
  have hb := buildOnce_any b g c W (w.setCell ⟨b, 1, none⟩ (.int .i32 1)) (hW.setCell hWb _) hWb
    ((World.cell?_setCell_other _ _ _ _ (ne_off (by decide))).trans h0) (World.cell?_setCell_same _ _ _ h1) ((World.cell?_setCell_other _ _ _ _ (ne_off (by decide))).trans h3)
    (fun i => by rw [World.frozen?_setCell]; exact hf i) ((World.cell?_setCell_other _ _ _ _ (ne_off (by decide))).trans h4)
    ⟨(World.cell?_setCell_other _ _ _ _ (ne_blk hbg)).trans o0, (World.cell?_setCell_other _ _ _ _ (ne_blk hbg)).trans o1, (World.cell?_setCell_other _ _ _ _ (ne_blk hbg)).trans o2, (World.cell?_setCell_other _ _ _ _ (ne_blk hbg)).trans o3⟩
  refine (once_build b w _ h0 h1 (hf 0) (hf 1) hb (fun w' hq => ⟨hq.2.2.1, hq.2.2.2.1, hq.2.2.2.2.1, hq.2.2.2.2.2⟩)).mono ?_
  rintro e w' ⟨rfl, w1, hq, rfl⟩
  refine ⟨rfl, ?_, ?_⟩
  · have := (hq.1.drew.set 0 (.int .u32 1)).set 1 (.int .i32 0)
    rw [es] at this
    exact this
  · have := hq.2.1
    rw [es] at this
    refine ((World.cell?_setCell_other _ _ _ _ (ne_off (by decide))).trans (World.cell?_setCell_other _ _ _ _ (ne_off (by decide)))).trans ?_
    rw [World.cell?_drew]; exact this
end Go.Proofs.YtienjpelmbldpaaGreatDoor

/- What package quote computes, as functions on lists of bytes, and facts on them. No statement is proved here. -/
namespace Go.Proofs.YtienjpelmbldpaaGreatDoor
set_option linter.unusedVariables false
set_option linter.unusedSimpArgs false

/-- a quoted stretch behind its sign: what it says, how many bytes it has with the sign that ends it; p: does the byte ahead pair the next one? -/
def qrd : Bool → List UInt8 → List UInt8 × Nat
  | _, [] => ([], 0)
  | p, c :: r =>
    if !p && c == 34 then ([], 1)
    else if !p && c == 92 then ((qrd true r).1, (qrd true r).2 + 1)
    else (c :: (qrd false r).1, (qrd false r).2 + 1)
def readQ (l : List UInt8) : List UInt8 × Nat :=
  match l with
  | [] => ([], 0)
  | c :: r => if c == 34 then ((qrd false r).1, (qrd false r).2 + 1) else ([], 0)
def escC (c : UInt8) : List UInt8 := if c = 34 ∨ c = 92 then [92, c] else [c]
def escL (l : List UInt8) : List UInt8 := l.flatMap escC
def quoteL (l : List UInt8) : List UInt8 := 34 :: (escL l ++ [34])
theorem qrd_le (p : Bool) (l : List UInt8) : (qrd p l).1.length ≤ l.length ∧ (qrd p l).2 ≤ l.length := by
  induction l generalizing p with
  | nil => exact ⟨Nat.le_refl _, Nat.le_refl _⟩
  | cons c r ih =>
    unfold qrd
    split
    · simp
    · split
      · have := ih true; simp; omega
      · have := ih false; simp; omega
theorem readQ_le (l : List UInt8) : (readQ l).1.length ≤ l.length ∧ (readQ l).2 ≤ l.length := by
  cases l with
  | nil => exact ⟨Nat.le_refl _, Nat.le_refl _⟩
  | cons c r =>
    have := qrd_le false r
    unfold readQ
    simp only []
    split
    · simp; omega
    · simp
theorem qrd_esc (x r : List UInt8) : qrd false (escL x ++ 34 :: r) = (x, (escL x).length + 1) := by
  induction x with
  | nil => rfl
  | cons c t ih =>
    have e : escL (c :: t) = escC c ++ escL t := rfl
    rw [e]
    by_cases h : c = 34 ∨ c = 92
    · rw [show escC c = [92, c] from if_pos h]
      show qrd false (92 :: c :: (escL t ++ 34 :: r)) = _
      have h1 : qrd false (92 :: c :: (escL t ++ 34 :: r)) = ((qrd true (c :: (escL t ++ 34 :: r))).1, (qrd true (c :: (escL t ++ 34 :: r))).2 + 1) := rfl
      have h2 : qrd true (c :: (escL t ++ 34 :: r)) = (c :: (qrd false (escL t ++ 34 :: r)).1, (qrd false (escL t ++ 34 :: r)).2 + 1) := rfl
      rw [h1, h2, ih]
      simp
    · rw [show escC c = [c] from if_neg h]
      have h34 : (c == 34) = false := beq_eq_false_iff_ne.2 (fun e => h (.inl e))
      have h92 : (c == 92) = false := beq_eq_false_iff_ne.2 (fun e => h (.inr e))
      show qrd false (c :: (escL t ++ 34 :: r)) = _
      unfold qrd
      rw [h34, h92, ih]
      simp
/-- what is written is read, whatever follows -/
theorem readQ_quote (x r : List UInt8) : readQ (quoteL x ++ r) = (x, (quoteL x).length) := by
  have e : quoteL x ++ r = 34 :: (escL x ++ 34 :: r) := by simp [quoteL]
  rw [e]
  show ((qrd false (escL x ++ 34 :: r)).1, (qrd false (escL x ++ 34 :: r)).2 + 1) = _
  rw [qrd_esc]
  simp [quoteL]
theorem escC_length (c : UInt8) : (escC c).length ≤ 2 := by unfold escC; split <;> simp
theorem escL_length (l : List UInt8) : (escL l).length ≤ 2 * l.length := by
  induction l with
  | nil => exact Nat.le_refl _
  | cons c r ih =>
    have := escC_length c
    show (escC c ++ escL r).length ≤ _
    rw [List.length_append, List.length_cons]; omega
/-- a control sign: below 32, or 127 -/
def ctlB (c : UInt8) : Bool := decide (c.toNat < 32) || c == 127
end Go.Proofs.YtienjpelmbldpaaGreatDoor

/- How many signs a quoted stretch pairs. No statement is proved here. -/
namespace Go.Proofs.YtienjpelmbldpaaGreatDoor
set_option linter.unusedVariables false
set_option linter.unusedSimpArgs false
def cnB (c : UInt8) (l : List UInt8) : Nat := l.count c
def qn (l : List UInt8) : Nat := cnB 92 l + cnB 34 l
theorem qn_snoc (l : List UInt8) (c : UInt8) : qn (l ++ [c]) = qn l + (escC c).length - 1 := by
  unfold qn cnB escC
  rw [List.count_append, List.count_append, List.count_singleton, List.count_singleton]
  by_cases h1 : c = 34
  · subst h1; simp; omega
  · by_cases h2 : c = 92
    · subst h2; simp; omega
    · simp [h1, h2]
theorem escL_len (l : List UInt8) : (escL l).length = l.length + qn l := by
  induction l with
  | nil => rfl
  | cons c t ih =>
    show (escC c ++ escL t).length = _
    rw [List.length_append, ih]
    unfold qn cnB escC
    rw [List.count_cons, List.count_cons, List.length_cons]
    by_cases h1 : c = 34
    · subst h1; simp; omega
    · by_cases h2 : c = 92
      · subst h2; simp; omega
      · simp [h1, h2]; omega
theorem escL_same (l : List UInt8) (h : qn l = 0) : escL l = l := by
  unfold qn cnB at h
  induction l with
  | nil => rfl
  | cons c t ih =>
    rw [List.count_cons, List.count_cons] at h
    have h1 : ¬ c = 34 := fun e => by subst e; simp at h
    have h2 : ¬ c = 92 := fun e => by subst e; simp at h
    show escC c ++ escL t = _
    rw [ih (by omega)]
    simp [escC, h1, h2]
theorem escL_snoc (l : List UInt8) (c : UInt8) : escL (l ++ [c]) = escL l ++ escC c := by simp [escL]
theorem escL_take (s : ByteArray) (k : Nat) (h : k < s.size) : escL (s.data.toList.take (k + 1)) = escL (s.data.toList.take k) ++ escC s[k] := by rw [take_snoc s k h, escL_snoc]
theorem qn_take (s : ByteArray) (k : Nat) (h : k < s.size) : qn (s.data.toList.take (k + 1)) = qn (s.data.toList.take k) + (escC s[k]).length - 1 := by rw [take_snoc s k h, qn_snoc]
theorem qn_le (l : List UInt8) : qn l ≤ l.length := by
  have h1 := escL_len l
  have h2 := escL_length l
  omega
theorem escL_part (s : ByteArray) (k : Nat) : (escL (s.data.toList.take k)).length ≤ (escL s.data.toList).length := by
  have e : escL s.data.toList = escL (s.data.toList.take k) ++ escL (s.data.toList.drop k) := by
    unfold escL
    rw [← List.flatMap_append, List.take_append_drop]
  rw [e, List.length_append]; exact Nat.le_add_right _ _
/-- o, then as many zeroes as N wants -/
def padL (N : Nat) (o : List UInt8) : List UInt8 := o ++ List.replicate (N - o.length) 0
theorem padL_length {N : Nat} {o : List UInt8} (h : o.length ≤ N) : (padL N o).length = N := by unfold padL; simp; omega
theorem padL_set {N : Nat} {o : List UInt8} (c : UInt8) (h : o.length < N) : (padL N o).set o.length c = padL N (o ++ [c]) := by
  unfold padL
  rw [List.set_append_right _ _ (Nat.le_refl _), Nat.sub_self]
  obtain ⟨m, hm⟩ : ∃ m, N - o.length = m + 1 := ⟨N - o.length - 1, by omega⟩
  have hm2 : N - (o ++ [c]).length = m := by simp; omega
  rw [hm, hm2, List.replicate_succ]
  simp
theorem padL_full (o : List UInt8) : padL o.length o = o := by unfold padL; simp
end Go.Proofs.YtienjpelmbldpaaGreatDoor

/- WALKS of strings.byteStringReplacer's Replace at quote's two signs. No statement is proved here. -/
namespace Go.Proofs.YtienjpelmbldpaaGreatDoor
open Go.RowKit
set_option linter.unusedVariables false
set_option linter.unusedSimpArgs false
set_option maxRecDepth 100000
theorem made_zero (w : World) (n : Nat) (h : n ≤ 140737488355328) : ∃ w2, (Instr.makeSlice 50 (.int .i64 n) (.int .i64 n)).run Tryz.prog w = .ok (.slice (some ⟨w.heap.size, 0, none⟩) n n) w2 ∧ Arr w.heap.size w.heap.size (padL n []) w w2 := by
  obtain ⟨i0, hi, hz0, hz1, hz2⟩ := info_parts info_u8
  have hm := run_make (P := Tryz.prog) w 50 5 i0 _ Tryz.underlying50 hi hz0 .i64 .i64 n n (by omega) (Int.le_refl _) (by rw [hz2]; omega) (by omega)
  simp only [Int.toNat_natCast] at hm
  refine ⟨_, hm, fun j hj => ⟨?_, World.frozen?_alloc_at _ _ _ _ rfl⟩, (Below.refl _ w).alloc (Nat.le_refl _) _, Nat.le_refl _, by rw [World.size_alloc]; omega⟩
  have hj' : j < n := by rw [padL_length (Nat.zero_le _)] at hj; exact hj
  rw [World.cell?_alloc_at _ _ _ _ rfl, hz1, Nat.mul_one]
  have e0 : (padL n [])[j]'hj = 0 := by simp [padL]
  rw [e0]
  simp [madeCells, hj', Value.cells, Nat.mod_one]
theorem arr_put {B g N : Nat} {o : List UInt8} {W0 w : World} (h : Arr B g (padL N o) W0 w) (hl : o.length < N) (c : UInt8) : Arr B g (padL N (o ++ [c])) W0 (w.setCell ⟨g, o.length, none⟩ (.int .u8 c.toNat)) := by
  have := h.set o.length (by rw [padL_length (Nat.le_of_lt hl)]; exact hl) c _ rfl
  rw [padL_set c hl] at this
  exact this
theorem TwoAt.kept' {w wr : World} {g B : Nat} {x y : Int} (h : TwoAt w g x y B) (hb : Below w.heap.size w wr) (hg : g < w.heap.size) : TwoAt wr g x y B := h.kept hb
theorem size_u8 : (Tryz.prog.info? 5).map (·.size) = some 1 := by kernel_rfl
/-- copy of a row of two bytes, at a step of a region that draws -/
theorem step_copy_two {ops : Array Oper} {o : Oper} {a : Act} {w : World} {K : Act → World → Prop} {Q : Exit → Act → World → Prop} {E : Prop} (hgd : o.guard = none) (d sl : Operand)
    (ho : o.op = .call { callee := .builtin .copy, args := #[d, sl], argTypes := #[50, 50] })
    (g jn dl dc gx cx : Nat) (x y : Int) (hd : a.eval d = .slice (some ⟨g, jn, none⟩) dl dc) (hs : a.eval sl = .slice (some ⟨gx, 0, none⟩) 2 cx) (h2 : 2 ≤ dl)
    (s0 : w.cell? ⟨gx, 0, none⟩ = some (.int .u8 x)) (s1 : w.cell? ⟨gx, 1, none⟩ = some (.int .u8 y)) (t0 : (w.cell? ⟨g, jn, none⟩).isSome = true) (t1 : (w.cell? ⟨g, jn + 1, none⟩).isSome = true)
    (f0 : w.frozen? ⟨g, jn, none⟩ = false) (f1 : w.frozen? ⟨g, jn + 1, none⟩ = false)
    (h : K (a.put o.dst (goInt 2)) ((w.setCell ⟨g, jn, none⟩ (.int .u8 x)).setCell ⟨g, jn + 1, none⟩ (.int .u8 y))) :
    if Region.wanted o (yielded ops a.tmps) = true then Oper.wp Tryz.prog o a w K Q else E := by
  have hw : Region.wanted o (yielded ops a.tmps) = true := by simp [Region.wanted, hgd]
  rw [if_pos hw]
  have hr := run_copy_cells (P := Tryz.prog) w 50 50 o.type 5 g jn dl dc ⟨gx, 0, none⟩ 2 cx [.int .u8 x, .int .u8 y] Tryz.underlying50 size_u8 (by show 2 = Nat.min 2 dl; exact (Nat.min_eq_left h2).symm)
    (fun j v hv => by
      match j, hv with
      | 0, hv => rw [Addr.add_lit]; cases hv; exact s0
      | 1, hv => rw [Addr.add_lit]; cases hv; exact s1)
    (fun j hj => by
      match j, hj with
      | 0, _ => exact t0
      | 1, _ => exact t1)
    (fun j hj => by
      match j, hj with
      | 0, _ => exact f0
      | 1, _ => exact f1)
    (fun v hv => by
      rcases List.mem_cons.1 hv with rfl | hv
      · rfl
      · rcases List.mem_cons.1 hv with rfl | hv
        · rfl
        · cases hv)
  unfold Oper.wp execOp
  simp only [ho, resolve, invoke, builtin, Sem.run_bind, Sem.run_pure, Result.andThen_ok, List.map_toArray, List.map_cons, List.map_nil, hd, hs, hr]
  exact h
set_option maxHeartbeats 1600000 in
theorem replace_any (s : ByteArray) (b R : Nat) (W w : World) (hr : RepAt W b R w) (hs : s.size ≤ 35184372088832) :
    Calls Tryz.prog 222 #[.pointer (some ⟨R, 0, none⟩), .string s] w fun e w' => e = .returned (.string (str (escL s.data.toList))) ∧ Below w.heap.size w w' := by
  obtain ⟨G, g1, c1, g2, c2, ⟨B0, hR, hG, hne, hc, hf, h256, hG0, hG1, hfG⟩, t1, t2, hWb, l1, l2, l3, l4⟩ := hr
  have hlR : R < w.heap.size := World.block_lt_of_cell? w _ h256
  have hlG : G < w.heap.size := World.block_lt_of_cell? w _ hG0
  have hl1 : g1 < w.heap.size := World.block_lt_of_cell? w _ t1.1
  have hl2 : g2 < w.heap.size := World.block_lt_of_cell? w _ t2.1
  have hcl := hide hc
  have HT1 := hide t1
  have HT2 := hide t2
  clear hc hf hfG t1 t2
  by_cases hbig : 16 ≤ s.size
  · have t16 : decide ((16 : Int) ≤ (s.size : Int)) = true := decide_eq_true (by omega)
    have HBIG := hide hbig
    clear hbig
    go_enter Tryz.func222, Tryz.ntmps222
    go_wp2_with fail
    have hqb : cnB 92 s.data.toList + cnB 34 s.data.toList ≤ 35184372088832 := Nat.le_trans (qn_le s.data.toList) (by rw [toList_length]; exact hs)
    obtain ⟨q2, hq2⟩ : ∃ q, q = cnB 92 s.data.toList := ⟨_, rfl⟩
    obtain ⟨q3, hq3⟩ : ∃ q, q = cnB 34 s.data.toList := ⟨_, rfl⟩
    rw [← hq2, ← hq3] at hqb
    have HQ2 := hide hq2
    have HQ3 := hide hq3
    have HQN0 : Hid (q2 + q3 = qn s.data.toList) := hide (by rw [hq2, hq3]; rfl)
    clear hq2 hq3
    go_loopw [5, 6, 32] (fun n a k wr => ∃ (q : Nat) (bb : Bool), q ≤ 35184372088832 ∧ n = .int .i64 (s.size + q : Nat) ∧ a = .bool bb ∧ Hid (bb = decide (q ≠ 0)) ∧ Hid (Below w.heap.size w wr) ∧ ((k = .int .i64 0 ∧ q = 0) ∨ (k = .int .i64 1 ∧ q = q2) ∨ (k = .int .i64 2 ∧ q = q2 + q3))) (fun _ _ k _ => 2 - (intOf k).toNat)
    case atStart => exact ⟨0, false, by omega, rfl, rfl, rfl, hide (Below.refl _ _), .inl ⟨rfl, rfl⟩⟩
    case round =>
      obtain ⟨q, bb, hql, rfl, rfl, HB, HBW, ⟨rfl, hq⟩ | ⟨rfl, hq⟩ | ⟨rfl, hq⟩⟩ := hrel
      · have hcn := Tryz.strings_Count_one s 92 wr
        have hB := HBW.out
        have k256 := (hB.cell (p := ⟨R, 256, none⟩) hlR).trans h256
        have kG0 := (hB.cell (p := ⟨G, 0, none⟩) hlG).trans hG0
        have kG1 := (hB.cell (p := ⟨G, 1, none⟩) hlG).trans hG1
        clear hB
        have h92 : wr.cell? ⟨R, ((⟨#[92]⟩ : ByteArray)[0]'(by decide)).toNat, none⟩ = some (.slice (some ⟨g2, 0, none⟩) 2 c2) := (HBW.out.cell (p := ⟨R, 92, none⟩) hlR).trans (hcl.out 92 (by decide))
        by_cases hz : q2 = 0
        · go_wp2_with (refine hcn.mono ?_; rintro e w1 ⟨rfl, hw1⟩; obtain rfl : wr = w1 := hw1.symm; rw [show Lib.countByte s.data.toList 92 = 0 from HQ2.out.symm.trans hz])
          go_round
          case rel => exact ⟨q, bb, hql, by go_num, rfl, HB, HBW, .inr (.inl ⟨rfl, by omega⟩)⟩
          case measure => simp [intOf]
        · go_wp2_with (refine hcn.mono ?_; rintro e w1 ⟨rfl, hw1⟩; obtain rfl : wr = w1 := hw1.symm; rw [show Lib.countByte s.data.toList 92 = q2 from HQ2.out.symm])
          go_region_calls
          all_goals
            go_wp2_with fail
            go_round
            case rel => exact ⟨q + q2, true, by omega, by go_num, rfl, hide (by simp; omega), hide HBW.out.drew, .inr (.inl ⟨rfl, by omega⟩)⟩
            case measure => simp [intOf]
      · have hcn := Tryz.strings_Count_one s 34 wr
        have hB := HBW.out
        have k256 := (hB.cell (p := ⟨R, 256, none⟩) hlR).trans h256
        have kG0 := (hB.cell (p := ⟨G, 0, none⟩) hlG).trans hG0
        have kG1 := (hB.cell (p := ⟨G, 1, none⟩) hlG).trans hG1
        clear hB
        have h92 : wr.cell? ⟨R, ((⟨#[34]⟩ : ByteArray)[0]'(by decide)).toNat, none⟩ = some (.slice (some ⟨g1, 0, none⟩) 2 c1) := (HBW.out.cell (p := ⟨R, 34, none⟩) hlR).trans (hcl.out 34 (by decide))
        by_cases hz : q3 = 0
        · go_wp2_with (refine hcn.mono ?_; rintro e w1 ⟨rfl, hw1⟩; obtain rfl : wr = w1 := hw1.symm; rw [show Lib.countByte s.data.toList 34 = 0 from HQ3.out.symm.trans hz])
          go_round
          case rel => exact ⟨q, bb, hql, by go_num, rfl, HB, HBW, .inr (.inr ⟨rfl, by omega⟩)⟩
          case measure => simp [intOf]
        · go_wp2_with (refine hcn.mono ?_; rintro e w1 ⟨rfl, hw1⟩; obtain rfl : wr = w1 := hw1.symm; rw [show Lib.countByte s.data.toList 34 = q3 from HQ3.out.symm])
          go_region_calls
          all_goals
            go_wp2_with fail
            go_round
            case rel => exact ⟨q + q3, true, by omega, by go_num, rfl, hide (by simp; omega), hide HBW.out.drew, .inr (.inr ⟨rfl, by omega⟩)⟩
            case measure => simp [intOf]
      · have HQN : Hid (q = qn s.data.toList) := hide (by rw [hq]; exact HQN0.out)
        cases bb with
        | false =>
          have hz : q = 0 := by have := HB.out; simpa using this
          have HE : Hid (str (escL s.data.toList) = s) := hide (by rw [escL_same _ (HQN.out.symm.trans hz), str_of])
          clear hz
          go_wp2_with fail
          go_ret
          exact ⟨ret_str HE.out.symm, HBW.out⟩
        | true =>
          clear hq
          obtain ⟨N, hN⟩ : ∃ N, N = s.size + q := ⟨_, rfl⟩
          rw [← hN]
          have hNb : N ≤ 140737488355328 := by omega
          have HN : Hid (N = (escL s.data.toList).length) := hide (by rw [hN, escL_len, toList_length, HQN.out])
          clear hN
          obtain ⟨w2, hm, ha⟩ := made_zero wr N hNb
          have HA2 := hide ha
          clear ha
          go_wp2_with fail
          go_loopw [13, 14] (fun j i w3 => ∃ k jn : Nat, k ≤ s.size ∧ i = .int .i64 k ∧ j = .int .i64 jn ∧ Hid (jn = (escL (s.data.toList.take k)).length) ∧ Hid (Arr wr.heap.size wr.heap.size (padL N (escL (s.data.toList.take k))) wr w3)) (fun _ i _ => s.size - (intOf i).toNat)
          case atStart => exact ⟨0, 0, Nat.zero_le _, rfl, rfl, rfl, HA2⟩
          case round =>
            obtain ⟨k, jn, hk, rfl, rfl, HJ, HA⟩ := hrel
            by_cases hlt : k < s.size
            · have hb256 : (s[k].toNat : Int) < 256 := by have := (s[k]).toNat_lt; omega
              have HBW2 := hide (HBW.out.trans (HA.out.below.mono HBW.out.size))
              have hcell := (HBW2.out.cell (p := ⟨R, s[k].toNat, none⟩) hlR).trans (hcl.out s[k].toNat (s[k]).toNat_lt)
              have hes := escL_take s k hlt
              have hle := escL_part s (k + 1)
              rw [← HN.out, hes, List.length_append, ← HJ.out] at hle
              have hjl : (escL (s.data.toList.take k)).length ≤ N := by rw [← HJ.out]; omega
              by_cases hx : s[k] = 34 ∨ s[k] = 92
              · rw [show escC s[k] = [92, s[k]] from if_pos hx] at hes hle
                have hj2 : jn + 2 ≤ N := hle
                obtain ⟨gx, cx, hgx, hcx, htx⟩ : ∃ gx cx : Nat, gx < w.heap.size ∧ wr.cell? ⟨R, s[k].toNat, none⟩ = some (.slice (some ⟨gx, 0, none⟩) 2 cx) ∧ TwoAt w gx 92 (s[k].toNat : Int) 0 := by
                  rcases hx with h1 | h1
                  · exact ⟨g1, c1, hl1, by rw [hcell, h1]; rfl, by rw [h1]; exact HT1.out⟩
                  · exact ⟨g2, c2, hl2, by rw [hcell, h1]; rfl, by rw [h1]; exact HT2.out⟩
                have tw := htx.kept' HBW2.out hgx
                have hp := arr_put (arr_put HA.out (by rw [← HJ.out]; omega) 92) (by rw [List.length_append, ← HJ.out]; exact hj2) s[k]
                have hjn : jn + 2 = (escL (s.data.toList.take (k + 1))).length := by rw [hes, List.length_append, ← HJ.out]; rfl
                rw [List.append_assoc, List.length_append, ← HJ.out] at hp
                rw [show ([92] : List UInt8) ++ [s[k]] = [92, s[k]] from rfl, ← hes] at hp
                have e0 := HA.out.cell jn (by rw [padL_length hjl]; omega)
                have e1 := HA.out.cell (jn + 1) (by rw [padL_length hjl]; omega)
                have f0 := HA.out.free jn (by rw [padL_length hjl]; omega)
                have f1 := HA.out.free (jn + 1) (by rw [padL_length hjl]; omega)
                have T0 := hide (show (wr.drew.cell? ⟨_, jn, none⟩).isSome = true by rw [World.cell?_drew, e0]; rfl)
                have T1 := hide (show (wr.drew.cell? ⟨_, jn + 1, none⟩).isSome = true by rw [World.cell?_drew, e1]; rfl)
                have F0 := hide f0
                have F1 := hide f1
                have HP := hide hp.drew
                have HJ2 := hide hjn
                have TW := hide tw
                clear hcell hx hle htx tw e0 e1 f0 f1 hp hjn hjl hes
                go_wp2_with fail
                have hjN : jn ≤ N := by omega
                have hnN : ¬ N = jn := by omega
                go_region_law (refine step_copy_two rfl _ _ rfl _ jn _ _ gx cx 92 (s[k].toNat : Int) rfl rfl (by omega) TW.out.1 TW.out.2.1 T0.out T1.out F0.out F1.out ?_)
                all_goals
                  try go_wp2_with fail
                  exact ⟨⟨k + 1, jn + 2, by omega, by go_num, by go_num, HJ2, HP⟩, by simp [intOf]; omega⟩
              · have hx1 : ¬ s[k] = 34 := fun e => hx (.inl e)
                have hx2 : ¬ s[k] = 92 := fun e => hx (.inr e)
                rw [show escC s[k] = [s[k]] from if_neg hx] at hes hle
                have hj1 : jn + 1 ≤ N := hle
                have hc1 : wr.cell? ⟨R, s[k].toNat, none⟩ = some (.slice none 0 0) := by
                  have n1 : ¬ s[k].toNat = 34 := fun e => hx1 (UInt8.toNat_inj.1 e)
                  have n2 : ¬ s[k].toNat = 92 := fun e => hx2 (UInt8.toNat_inj.1 e)
                  rw [hcell, if_neg n1, if_neg n2]; rfl
                obtain ⟨vj, kj⟩ : ∃ v, wr.cell? ⟨_, jn, none⟩ = some v := ⟨_, HA.out.cell jn (by rw [padL_length hjl]; omega)⟩
                have zj := HA.out.free jn (by rw [padL_length hjl]; omega)
                have hp := arr_put HA.out (by rw [← HJ.out]; omega) s[k]
                have hjn : jn + 1 = (escL (s.data.toList.take (k + 1))).length := by rw [hes, List.length_append, ← HJ.out]; rfl
                rw [← HJ.out, ← hes] at hp
                have HP := hide hp
                have HJ2 := hide hjn
                clear hcell hx hx1 hx2 hle hp hjn hes hjl
                go_wp2_with fail
                go_round
                case rel => exact ⟨k + 1, jn + 1, by omega, by go_num, by go_num, HJ2, HP⟩
                case measure => simp [intOf]; omega
            · have hk2 : k = s.size := by omega
              have hes : escL (s.data.toList.take k) = escL s.data.toList := by rw [List.take_of_length_le (by rw [toList_length]; omega)]
              have ha := HA.out
              rw [hes, HN.out, padL_full] at ha
              have hcv := ha.convert N
              rw [← HN.out] at hcv
              have HBW2 := hide (HBW.out.trans (HA.out.below.mono HBW.out.size))
              clear ha hes
              go_wp2_with fail
              go_ret
              exact ⟨rfl, HBW2.out⟩
  · have t16 : decide ((16 : Int) ≤ (s.size : Int)) = false := decide_eq_false (by omega)
    have HBIG := hide hbig
    clear hbig
    go_enter Tryz.func222, Tryz.ntmps222
    go_wp2_with fail
    go_loopw [5, 6, 10] (fun n a i wr => ∃ (k q : Nat) (bb : Bool), k ≤ s.size ∧ i = .int .i64 k ∧ q ≤ k ∧ n = .int .i64 (s.size + q : Nat) ∧ a = .bool bb ∧ Hid (bb = decide (q ≠ 0)) ∧ Hid (q = qn (s.data.toList.take k)) ∧ Hid (Below w.heap.size w wr)) (fun _ _ i _ => s.size - (intOf i).toNat)
    case atStart => exact ⟨0, 0, false, Nat.zero_le _, rfl, Nat.le_refl _, rfl, rfl, rfl, rfl, hide (Below.refl _ _)⟩
    case round =>
      obtain ⟨k, q, bb, hk, rfl, hqk, rfl, rfl, HB, HQ, HBW⟩ := hrel
      by_cases hlt : k < s.size
      · have hq := qn_take s k hlt
        rw [← HQ.out] at hq
        have hcell := (HBW.out.cell (p := ⟨R, s[k].toNat, none⟩) hlR).trans (hcl.out s[k].toNat (s[k]).toNat_lt)
        have hb256 : (s[k].toNat : Int) < 256 := by have := (s[k]).toNat_lt; omega
        by_cases h1 : s[k] = 34
        · have hc1 : wr.cell? ⟨R, s[k].toNat, none⟩ = some (.slice (some ⟨g1, 0, none⟩) 2 c1) := by rw [hcell, h1]; rfl
          have HN : Hid (q + 1 = qn (s.data.toList.take (k + 1))) := hide (by rw [hq, h1]; rfl)
          clear hq hcell h1
          go_wp2_with fail
          go_round
          case rel => exact ⟨k + 1, q + 1, true, by omega, by go_num, by omega, by go_num, rfl, hide (by simp), HN, HBW⟩
          case measure => simp [intOf]; omega
        · by_cases h2 : s[k] = 92
          · have hc1 : wr.cell? ⟨R, s[k].toNat, none⟩ = some (.slice (some ⟨g2, 0, none⟩) 2 c2) := by rw [hcell, h2]; rfl
            have HN : Hid (q + 1 = qn (s.data.toList.take (k + 1))) := hide (by rw [hq, h2]; rfl)
            clear hq hcell h1 h2
            go_wp2_with fail
            go_round
            case rel => exact ⟨k + 1, q + 1, true, by omega, by go_num, by omega, by go_num, rfl, hide (by simp), HN, HBW⟩
            case measure => simp [intOf]; omega
          · have hc1 : wr.cell? ⟨R, s[k].toNat, none⟩ = some (.slice none 0 0) := by
              have n1 : ¬ s[k].toNat = 34 := fun e => h1 (UInt8.toNat_inj.1 e)
              have n2 : ¬ s[k].toNat = 92 := fun e => h2 (UInt8.toNat_inj.1 e)
              rw [hcell, if_neg n1, if_neg n2]; rfl
            have HN : Hid (q = qn (s.data.toList.take (k + 1))) := hide (by rw [hq, escC, if_neg (fun e => e.elim h1 h2)]; simp)
            clear hq hcell h1 h2
            go_wp2_with fail
            go_round
            case rel => exact ⟨k + 1, q, bb, by omega, by go_num, by omega, rfl, rfl, HB, HN, HBW⟩
            case measure => simp [intOf]; omega
      · have HQN : Hid (q = qn s.data.toList) := hide (by rw [HQ.out, List.take_of_length_le (by rw [toList_length]; omega)])
        cases bb with
        | false =>
          have hz : q = 0 := by have := HB.out; simpa using this
          have HE : Hid (str (escL s.data.toList) = s) := hide (by rw [escL_same _ (HQN.out.symm.trans hz), str_of])
          clear hz
          go_wp2_with fail
          go_ret
          exact ⟨ret_str HE.out.symm, HBW.out⟩
        | true =>
          obtain ⟨N, hN⟩ : ∃ N, N = s.size + q := ⟨_, rfl⟩
          rw [← hN]
          have hNb : N ≤ 140737488355328 := by omega
          have HN : Hid (N = (escL s.data.toList).length) := hide (by rw [hN, escL_len, toList_length, HQN.out])
          clear hN
          obtain ⟨w2, hm, ha⟩ := made_zero wr N hNb
          have HA2 := hide ha
          clear ha
          go_wp2_with fail
          go_loopw [13, 14] (fun j i w3 => ∃ k jn : Nat, k ≤ s.size ∧ i = .int .i64 k ∧ j = .int .i64 jn ∧ Hid (jn = (escL (s.data.toList.take k)).length) ∧ Hid (Arr wr.heap.size wr.heap.size (padL N (escL (s.data.toList.take k))) wr w3)) (fun _ i _ => s.size - (intOf i).toNat)
          case atStart => exact ⟨0, 0, Nat.zero_le _, rfl, rfl, rfl, HA2⟩
          case round =>
            obtain ⟨k, jn, hk, rfl, rfl, HJ, HA⟩ := hrel
            by_cases hlt : k < s.size
            · have hb256 : (s[k].toNat : Int) < 256 := by have := (s[k]).toNat_lt; omega
              have HBW2 := hide (HBW.out.trans (HA.out.below.mono HBW.out.size))
              have hcell := (HBW2.out.cell (p := ⟨R, s[k].toNat, none⟩) hlR).trans (hcl.out s[k].toNat (s[k]).toNat_lt)
              have hes := escL_take s k hlt
              have hle := escL_part s (k + 1)
              rw [← HN.out, hes, List.length_append, ← HJ.out] at hle
              have hjl : (escL (s.data.toList.take k)).length ≤ N := by rw [← HJ.out]; omega
              by_cases hx : s[k] = 34 ∨ s[k] = 92
              · rw [show escC s[k] = [92, s[k]] from if_pos hx] at hes hle
                have hj2 : jn + 2 ≤ N := hle
                obtain ⟨gx, cx, hgx, hcx, htx⟩ : ∃ gx cx : Nat, gx < w.heap.size ∧ wr.cell? ⟨R, s[k].toNat, none⟩ = some (.slice (some ⟨gx, 0, none⟩) 2 cx) ∧ TwoAt w gx 92 (s[k].toNat : Int) 0 := by
                  rcases hx with h1 | h1
                  · exact ⟨g1, c1, hl1, by rw [hcell, h1]; rfl, by rw [h1]; exact HT1.out⟩
                  · exact ⟨g2, c2, hl2, by rw [hcell, h1]; rfl, by rw [h1]; exact HT2.out⟩
                have tw := htx.kept' HBW2.out hgx
                have hp := arr_put (arr_put HA.out (by rw [← HJ.out]; omega) 92) (by rw [List.length_append, ← HJ.out]; exact hj2) s[k]
                have hjn : jn + 2 = (escL (s.data.toList.take (k + 1))).length := by rw [hes, List.length_append, ← HJ.out]; rfl
                rw [List.append_assoc, List.length_append, ← HJ.out] at hp
                rw [show ([92] : List UInt8) ++ [s[k]] = [92, s[k]] from rfl, ← hes] at hp
                have e0 := HA.out.cell jn (by rw [padL_length hjl]; omega)
                have e1 := HA.out.cell (jn + 1) (by rw [padL_length hjl]; omega)
                have f0 := HA.out.free jn (by rw [padL_length hjl]; omega)
                have f1 := HA.out.free (jn + 1) (by rw [padL_length hjl]; omega)
                have T0 := hide (show (wr.drew.cell? ⟨_, jn, none⟩).isSome = true by rw [World.cell?_drew, e0]; rfl)
                have T1 := hide (show (wr.drew.cell? ⟨_, jn + 1, none⟩).isSome = true by rw [World.cell?_drew, e1]; rfl)
                have F0 := hide f0
                have F1 := hide f1
                have HP := hide hp.drew
                have HJ2 := hide hjn
                have TW := hide tw
                clear hcell hx hle htx tw e0 e1 f0 f1 hp hjn hjl hes
                go_wp2_with fail
                have hjN : jn ≤ N := by omega
                have hnN : ¬ N = jn := by omega
                go_region_law (refine step_copy_two rfl _ _ rfl _ jn _ _ gx cx 92 (s[k].toNat : Int) rfl rfl (by omega) TW.out.1 TW.out.2.1 T0.out T1.out F0.out F1.out ?_)
                all_goals
                  try go_wp2_with fail
                  exact ⟨⟨k + 1, jn + 2, by omega, by go_num, by go_num, HJ2, HP⟩, by simp [intOf]; omega⟩
              · have hx1 : ¬ s[k] = 34 := fun e => hx (.inl e)
                have hx2 : ¬ s[k] = 92 := fun e => hx (.inr e)
                rw [show escC s[k] = [s[k]] from if_neg hx] at hes hle
                have hj1 : jn + 1 ≤ N := hle
                have hc1 : wr.cell? ⟨R, s[k].toNat, none⟩ = some (.slice none 0 0) := by
                  have n1 : ¬ s[k].toNat = 34 := fun e => hx1 (UInt8.toNat_inj.1 e)
                  have n2 : ¬ s[k].toNat = 92 := fun e => hx2 (UInt8.toNat_inj.1 e)
                  rw [hcell, if_neg n1, if_neg n2]; rfl
                obtain ⟨vj, kj⟩ : ∃ v, wr.cell? ⟨_, jn, none⟩ = some v := ⟨_, HA.out.cell jn (by rw [padL_length hjl]; omega)⟩
                have zj := HA.out.free jn (by rw [padL_length hjl]; omega)
                have hp := arr_put HA.out (by rw [← HJ.out]; omega) s[k]
                have hjn : jn + 1 = (escL (s.data.toList.take (k + 1))).length := by rw [hes, List.length_append, ← HJ.out]; rfl
                rw [← HJ.out, ← hes] at hp
                have HP := hide hp
                have HJ2 := hide hjn
                clear hcell hx hx1 hx2 hle hp hjn hes hjl
                go_wp2_with fail
                go_round
                case rel => exact ⟨k + 1, jn + 1, by omega, by go_num, by go_num, HJ2, HP⟩
                case measure => simp [intOf]; omega
            · have hk2 : k = s.size := by omega
              have hes : escL (s.data.toList.take k) = escL s.data.toList := by rw [List.take_of_length_le (by rw [toList_length]; omega)]
              have ha := HA.out
              rw [hes, HN.out, padL_full] at ha
              have hcv := ha.convert N
              rw [← HN.out] at hcv
              have HBW2 := hide (HBW.out.trans (HA.out.below.mono HBW.out.size))
              clear ha hes
              go_wp2_with fail
              go_ret
              exact ⟨rfl, HBW2.out⟩
end Go.Proofs.YtienjpelmbldpaaGreatDoor

/- WALKS of strings.NewReplacer, (*strings.Replacer).Replace, quote.Write. No statement is proved here. -/
namespace Go.Proofs.YtienjpelmbldpaaGreatDoor
open Go.RowKit
set_option linter.unusedVariables false
set_option linter.unusedSimpArgs false
set_option maxRecDepth 100000
theorem meth_replace (a : Addr) (w : World) : (method 329 157 (.pointer (some a)) "Replace").run Tryz.prog w = .ok (222, .pointer (some a)) w := by kernel_rfl
set_option maxHeartbeats 1600000 in
theorem replacer_any (s : ByteArray) (b : Nat) (W w : World) (hW : Below W.heap.size W w) (hWb : W.heap.size ≤ b) (hn : NewAt b w) (hs : s.size ≤ 35184372088832) :
    Calls Tryz.prog 88 #[.pointer (some ⟨b, 0, none⟩), .string s] w fun e w' => e = .returned (.string (str (escL s.data.toList))) ∧ Below W.heap.size W w' := by
  go_enter Tryz.func88, Tryz.ntmps88
  have hmt := meth_replace
  have HD := hide (do_build b W w hW hWb hn)
  go_wp2_with (first
    | (go_at_call 116; refine HD.out.mono ?_; rintro e w1 ⟨rfl, hr1, hc1⟩; have HR1 := hide hr1; clear hr1)
    | (go_at_call 222; refine (replace_any s b _ W _ HR1.out hs).mono ?_; rintro e w2 ⟨rfl, hb2⟩; have HB2 := hide hb2; clear hb2))
  go_ret
  exact ⟨rfl, HR1.out.below.trans (HB2.out.mono HR1.out.below.size)⟩
theorem newReplacer_any (g : Nat) (w : World) (hg : OldNew g w) :
    Calls Tryz.prog 87 #[.slice (some ⟨g, 0, none⟩) 4 4] w fun e w' => ∃ b : Nat, e = .returned (.pointer (some ⟨b, 0, none⟩)) ∧ w.heap.size ≤ b ∧ Below w.heap.size w w' ∧ NewAt b w' := by
  obtain ⟨h0, h1, h2, h3⟩ := hg
  go_enter Tryz.func87, Tryz.ntmps87
  go_wp2_with fail
  go_ret
  generalize (Question.appendCap 4 0 9).cut _ = cp
  have es : ∀ C T, (w.alloc (.cells C T)).heap.size = w.heap.size + 1 := fun C T => World.size_alloc ..
  refine ⟨w.heap.size + 1, rfl, Nat.le_succ _, (((Below.refl _ w).alloc (Nat.le_refl _) _).alloc (by rw [es]; exact Nat.le_succ _) _).drew, ?_, ?_, ?_, fun i => ?_, w.heap.size, cp, ?_, ⟨?_, ?_, ?_, ?_⟩, by omega⟩
  · rw [World.cell?_drew, World.cell?_alloc_at _ _ _ _ (es _ _).symm]; rfl
  · rw [World.cell?_drew, World.cell?_alloc_at _ _ _ _ (es _ _).symm]; rfl
  · rw [World.cell?_drew, World.cell?_alloc_at _ _ _ _ (es _ _).symm]; rfl
  · rw [World.frozen?_drew]; exact World.frozen?_alloc_at _ _ _ _ (es _ _).symm
  · rw [World.cell?_drew, World.cell?_alloc_at _ _ _ _ (es _ _).symm]; rfl
  · rw [World.cell?_drew, World.cell?_alloc_past _ _ _ (by rw [es]; exact Nat.lt_succ_self _), World.cell?_alloc_at _ _ _ _ rfl, Array.getElem?_append_left (by decide)]; rfl
  · rw [World.cell?_drew, World.cell?_alloc_past _ _ _ (by rw [es]; exact Nat.lt_succ_self _), World.cell?_alloc_at _ _ _ _ rfl, Array.getElem?_append_left (by decide)]; rfl
  · rw [World.cell?_drew, World.cell?_alloc_past _ _ _ (by rw [es]; exact Nat.lt_succ_self _), World.cell?_alloc_at _ _ _ _ rfl, Array.getElem?_append_left (by decide)]; rfl
  · rw [World.cell?_drew, World.cell?_alloc_past _ _ _ (by rw [es]; exact Nat.lt_succ_self _), World.cell?_alloc_at _ _ _ _ rfl, Array.getElem?_append_left (by decide)]; rfl
theorem old_new (w : World) (t : TypeId) : OldNew w.heap.size (w.alloc (.cells #[.string ⟨#[34]⟩, .string ⟨#[92, 34]⟩, .string ⟨#[92]⟩, .string ⟨#[92, 92]⟩] t)) :=
  ⟨by rw [World.cell?_alloc_at _ _ _ _ rfl]; rfl, by rw [World.cell?_alloc_at _ _ _ _ rfl]; rfl, by rw [World.cell?_alloc_at _ _ _ _ rfl]; rfl, by rw [World.cell?_alloc_at _ _ _ _ rfl]; rfl⟩
set_option maxHeartbeats 1600000 in
/-- quote.Write -/
theorem writeQ_any (s : ByteArray) (w : World) (hs : s.size ≤ 35184372088832) :
    Calls Tryz.prog 54 #[.string s] w fun e w' => e = .returned (.string (str (quoteL s.data.toList))) ∧ Below w.heap.size w w' := by
  obtain ⟨X, hX⟩ : ∃ X, X = str (escL s.data.toList) := ⟨_, rfl⟩
  have hXs : X.size ≤ 70368744177664 := by
    rw [hX, str_size]
    have := escL_length s.data.toList
    rw [toList_length] at this
    omega
  have HX := hide hX
  have HON := hide (old_new w 9)
  have HB0 : Hid (Below w.heap.size w (w.alloc (.cells #[.string ⟨#[34]⟩, .string ⟨#[92, 34]⟩, .string ⟨#[92]⟩, .string ⟨#[92, 92]⟩] 9))) := hide ((Below.refl _ w).alloc (Nat.le_refl _) _)
  clear hX
  go_enter Tryz.func54, Tryz.ntmps54
  go_wp2_with (first
    | (go_at_call 87; refine (newReplacer_any _ _ HON.out).mono ?_; rintro e w1 ⟨b, rfl, hbb, hb1, hn1⟩; have HN1 := hide hn1; have HB1 := hide (HB0.out.trans (hb1.mono HB0.out.size)); have HBB := hide (Nat.le_trans HB0.out.size hbb); clear hbb hb1 hn1)
    | (go_at_call 88; refine (replacer_any s b w _ HB1.out HBB.out HN1.out hs).mono ?_; rw [← HX.out]; rintro e w2 ⟨rfl, hb2⟩; have HB2 := hide hb2; clear hb2))
  go_ret
  refine ⟨ret_str ?_, HB2.out⟩
  rw [HX.out]
  apply ext_list
  simp [quoteL, str]
end Go.Proofs.YtienjpelmbldpaaGreatDoor

/- WALKS of quote.Read, ascii.Control. No statement is proved here. -/
namespace Go.Proofs.YtienjpelmbldpaaGreatDoor
open Go.RowKit
set_option linter.unusedVariables false
set_option linter.unusedSimpArgs false
set_option maxRecDepth 100000

def ctlL (l : List UInt8) : Bool := l.any ctlB
theorem ctl_step (s : ByteArray) (k : Nat) (h : k < s.size) : ctlL (s.data.toList.drop k) = (ctlB s[k] || ctlL (s.data.toList.drop (k + 1))) := by rw [drop_cons s k h]; rfl
set_option maxHeartbeats 1000000 in
theorem control_any (s : ByteArray) (w : World) (hs : s.size ≤ 70368744177664) :
    Calls Tryz.prog 33 #[.string s] w fun e w' => e = .returned (.bool (ctlL s.data.toList)) ∧ w = w' := by
  have hsm : s.size < 9223372036854775807 := by omega
  go_enter Tryz.func33, Tryz.ntmps33
  go_wp2
  go_loop [6] (fun i => ∃ k : Nat, k ≤ s.size ∧ i = .int .i64 k ∧ Hid (ctlL (s.data.toList.drop k) = ctlL s.data.toList)) (fun i => s.size - (intOf i).toNat)
  case atStart => exact ⟨0, Nat.zero_le _, rfl, hide rfl⟩
  case round =>
    obtain ⟨k, hk, rfl, HG⟩ := hrel
    by_cases hlt : k < s.size
    · have hst := ctl_step s k hlt
      rw [HG.out] at hst
      by_cases h1 : s[k].toNat < 32
      · have t1 : decide ((s[k].toNat : Int) < 32) = true := decide_eq_true (by omega)
        have HR : Hid (ctlL s.data.toList = true) := hide (by rw [hst]; unfold ctlB; rw [decide_eq_true h1]; rfl)
        clear hst h1
        go_wp2_with fail
        go_ret
        exact ⟨ret_bool HR.out.symm, rfl⟩
      · have t1 : decide ((s[k].toNat : Int) < 32) = false := decide_eq_false (by omega)
        by_cases h2 : s[k] = 127
        · have t2 : ((s[k].toNat : Int) == 127) = true := tT 127 h2 (by omega)
          have HR : Hid (ctlL s.data.toList = true) := hide (by rw [hst]; unfold ctlB; rw [h2]; rfl)
          clear hst h1 h2
          go_wp2_with fail
          go_ret
          exact ⟨ret_bool HR.out.symm, rfl⟩
        · have t2 : ((s[k].toNat : Int) == 127) = false := tF 127 h2 (by omega)
          have HN : Hid (ctlL (s.data.toList.drop (k + 1)) = ctlL s.data.toList) := hide (by
            rw [hst]; unfold ctlB; rw [decide_eq_false h1, beq_eq_false_iff_ne.2 h2]; rfl)
          clear hst h1 h2
          go_wp2_with fail
          go_round
          case rel => exact ⟨k + 1, by omega, by go_num, HN⟩
          case measure => simp [intOf]; omega
    · have HR : Hid (ctlL s.data.toList = false) := hide (by rw [← HG.out, List.drop_eq_nil_of_le (by rw [toList_length]; omega)]; rfl)
      go_wp2_with fail
      go_ret
      exact ⟨ret_bool HR.out.symm, rfl⟩
/-- what Read answers -/
def readV (o : List UInt8 × Nat) : Value := .tuple #[.string (str o.1), .int .i64 o.2]
set_option maxHeartbeats 1000000 in
theorem readQ_any (s : ByteArray) (w : World) (hs : s.size ≤ 70368744177664) :
    Calls Tryz.prog 40 #[.string s] w fun e w' => e = .returned (readV (readQ s.data.toList)) ∧ Below w.heap.size w w' := by
  cases hp : Lib.hasPrefix s.data.toList [34] with
  | false =>
    have HR : Hid (readQ s.data.toList = ([], 0)) := hide (by
      cases hl : s.data.toList with
      | nil => rfl
      | cons c r =>
        rw [hl] at hp
        have : (c == 34) = false := by
          rw [beq_eq_false_iff_ne]
          intro e
          rw [e] at hp
          exact absurd hp (by unfold Lib.hasPrefix; simp)
        unfold readQ; simp only []; rw [this]; rfl)
    have HP := hide hp
    clear hp
    go_enter Tryz.func40, Tryz.ntmps40
    go_wp2_with fail
    refine (Tryz.strings_HasPrefix s ⟨#[34]⟩ _).mono ?_
    rintro e w1 ⟨rfl, hw1⟩
    obtain rfl : w = w1 := hw1.symm
    rw [show (⟨#[34]⟩ : ByteArray).data.toList = [34] from rfl, HP.out]
    go_wp2_with fail
    go_ret2
    exact ⟨by rw [HR.out]; rfl, Below.refl _ _⟩
  | true =>
    obtain ⟨r, hr⟩ : ∃ r, s.data.toList = 34 :: r := by
      cases hl : s.data.toList with
      | nil => rw [hl] at hp; cases hp
      | cons c r =>
        rw [hl] at hp
        by_cases e : c = 34
        · exact ⟨r, by rw [e]⟩
        · exact absurd hp (by unfold Lib.hasPrefix; simp [Ne.symm e])
    have h1s : 1 ≤ s.size := by rw [← toList_length, hr]; exact Nat.succ_pos _
    have HR : Hid (readQ s.data.toList = ((qrd false r).1, (qrd false r).2 + 1)) := hide (by rw [hr]; rfl)
    have HT : Hid (s.data.toList.drop 1 = r) := hide (by rw [hr]; rfl)
    have HP := hide hp
    clear hp hr
    go_enter Tryz.func40, Tryz.ntmps40
    go_wp2_with fail
    refine (Tryz.strings_HasPrefix s ⟨#[34]⟩ _).mono ?_
    rintro e w1 ⟨rfl, hw1⟩
    obtain rfl : w = w1 := hw1.symm
    rw [show (⟨#[34]⟩ : ByteArray).data.toList = [34] from rfl, HP.out]
    go_wp2_with fail
    go_loopw [4, 5, 6] (fun o p i wr => ∃ (k : Nat) (pb : Bool) (acc : List UInt8), 1 ≤ k ∧ k ≤ s.size ∧ i = .int .i64 k ∧ p = .bool pb ∧ acc.length ≤ k ∧ Hid (Buf w.heap.size o acc w wr) ∧ Hid ((acc ++ (qrd pb (s.data.toList.drop k)).1, k + (qrd pb (s.data.toList.drop k)).2) = readQ s.data.toList)) (fun _ _ i _ => s.size - (intOf i).toNat)
    case atStart => exact ⟨1, false, [], Nat.le_refl _, by omega, rfl, rfl, Nat.zero_le _, hide (Buf.nil (Below.refl _ _) (Nat.le_refl _)), hide (by rw [HT.out, HR.out, Nat.add_comm]; rfl)⟩
    case round =>
      obtain ⟨k, pb, acc, hk1, hk, rfl, rfl, hal, HB, HG⟩ := hrel
      by_cases hlt : k < s.size
      · have hd := drop_cons s k hlt
        cases pb with
        | true =>
          have HN : Hid (((acc ++ [s[k]]) ++ (qrd false (s.data.toList.drop (k + 1))).1, (k + 1) + (qrd false (s.data.toList.drop (k + 1))).2) = readQ s.data.toList) := hide (by
            rw [← HG.out, hd]
            have e : qrd true (s[k] :: s.data.toList.drop (k + 1)) = (s[k] :: (qrd false (s.data.toList.drop (k + 1))).1, (qrd false (s.data.toList.drop (k + 1))).2 + 1) := rfl
            rw [e]
            exact Prod.ext (by simp) (by show k + 1 + _ = k + (_ + 1); omega))
          have HAL : Hid (acc.length + 1 ≤ 140737488355328) := hide (by omega)
          obtain ⟨c, hc⟩ : ∃ c, c = s[k] := ⟨_, rfl⟩
          clear hd
          go_wp2_with (refine wpList_buf_byte rfl _ _ rfl w.heap.size u4 acc rfl w wr (s[k]) HB.out rfl HAL.out ?_; intro v4 w4 hb4; have HB4 := hide hb4; clear hb4)
          go_round
          case rel => exact ⟨k + 1, false, acc ++ [s[k]], by omega, by omega, by go_num, rfl, by simp; omega, HB4, HN⟩
          case measure => simp [intOf]; omega
        | false =>
          by_cases h1 : s[k] = 34
          · have t1 : ((s[k].toNat : Int) == (((⟨#[34]⟩ : ByteArray)[0]'(by decide)).toNat : Int)) = true := tT 34 h1 (by omega)
            have HE : Hid ((acc, k + 1) = readQ s.data.toList) := hide (by
              rw [← HG.out, hd, h1]
              have e : qrd false (34 :: s.data.toList.drop (k + 1)) = ([], 1) := rfl
              rw [e]; simp)
            have hcv := HB.out.convert
            clear hd h1
            go_wp2_with fail
            go_ret2
            exact ⟨by rw [← HE.out]; rfl, HB.out.below⟩
          · have t1 : ((s[k].toNat : Int) == (((⟨#[34]⟩ : ByteArray)[0]'(by decide)).toNat : Int)) = false := tF 34 h1 (by omega)
            by_cases h2 : s[k] = 92
            · have t2 : ((s[k].toNat : Int) == (((⟨#[92]⟩ : ByteArray)[0]'(by decide)).toNat : Int)) = true := tT 92 h2 (by omega)
              have HN : Hid ((acc ++ (qrd true (s.data.toList.drop (k + 1))).1, (k + 1) + (qrd true (s.data.toList.drop (k + 1))).2) = readQ s.data.toList) := hide (by
                rw [← HG.out, hd, h2]
                have e : qrd false (92 :: s.data.toList.drop (k + 1)) = ((qrd true (s.data.toList.drop (k + 1))).1, (qrd true (s.data.toList.drop (k + 1))).2 + 1) := rfl
                rw [e]
                exact Prod.ext rfl (by show k + 1 + _ = k + (_ + 1); omega))
              clear hd h1 h2
              go_wp2_with fail
              go_round
              case rel => exact ⟨k + 1, true, acc, by omega, by omega, by go_num, rfl, by omega, HB, HN⟩
              case measure => simp [intOf]; omega
            · have t2 : ((s[k].toNat : Int) == (((⟨#[92]⟩ : ByteArray)[0]'(by decide)).toNat : Int)) = false := tF 92 h2 (by omega)
              have HN : Hid (((acc ++ [s[k]]) ++ (qrd false (s.data.toList.drop (k + 1))).1, (k + 1) + (qrd false (s.data.toList.drop (k + 1))).2) = readQ s.data.toList) := hide (by
                rw [← HG.out, hd]
                have e : qrd false (s[k] :: s.data.toList.drop (k + 1)) = (s[k] :: (qrd false (s.data.toList.drop (k + 1))).1, (qrd false (s.data.toList.drop (k + 1))).2 + 1) := by
                  rw [qrd]
                  rw [beq_eq_false_iff_ne.2 h1, beq_eq_false_iff_ne.2 h2]; rfl
                rw [e]
                exact Prod.ext (by simp) (by show k + 1 + _ = k + (_ + 1); omega))
              have HAL : Hid (acc.length + 1 ≤ 140737488355328) := hide (by omega)
              clear hd h1 h2
              go_wp2_with (refine wpList_buf_byte rfl _ _ rfl w.heap.size u4 acc rfl w wr (s[k]) HB.out rfl HAL.out ?_; intro v4 w4 hb4; have HB4 := hide hb4; clear hb4)
              go_round
              case rel => exact ⟨k + 1, false, acc ++ [s[k]], by omega, by omega, by go_num, rfl, by simp; omega, HB4, HN⟩
              case measure => simp [intOf]; omega
      · have hk2 : k = s.size := by omega
        have HE : Hid ((acc, s.size) = readQ s.data.toList) := hide (by
          rw [← HG.out, List.drop_eq_nil_of_le (by rw [toList_length]; omega)]
          cases pb <;> (simp [qrd]; try omega))
        have hcv := HB.out.convert
        go_wp2_with fail
        go_ret2
        exact ⟨by rw [← HE.out]; rfl, HB.out.below⟩
end Go.Proofs.YtienjpelmbldpaaGreatDoor

/- WALK of word.fromQ. No statement is proved here. -/
namespace Go.Proofs.YtienjpelmbldpaaGreatDoor
open Go.RowKit
set_option linter.unusedVariables false
set_option linter.unusedSimpArgs false

set_option maxRecDepth 100000 in
set_option maxHeartbeats 1000000 in
theorem fromQ_any (s : ByteArray) (w : World) (hs : s.size ≤ 70368744177664) :
    Calls Tryz.prog 161 #[.string s] w fun e w' => e = .returned (.string (str (qdec s.data.toList))) ∧ Below w.heap.size w w' := by
  go_enter Tryz.func161, Tryz.ntmps161
  go_wp2_with (refine wpList_buf_make rfl _ _ rfl w.heap.size w (Below.refl _ _) (Nat.le_refl _) s.size s.size rfl rfl rfl (by omega) ?_; intro v0 w0 hb0)
  go_loopw [3, 4] (fun v i wr => ∃ (k : Nat) (acc : List UInt8), k ≤ s.size ∧ i = .int .i64 k ∧ Buf w.heap.size v acc w wr ∧ acc.length ≤ k ∧ acc ++ qdec (s.data.toList.drop k) = qdec s.data.toList) (fun _ i _ => s.size - (intOf i).toNat)
  case atStart => exact ⟨0, [], Nat.zero_le _, rfl, hb0, Nat.zero_le _, rfl⟩
  case round =>
    obtain ⟨k, acc, hk, rfl, hb, hacc, hd⟩ := hrel
    have HB := hide hb
    clear hb
    by_cases hlt : k < s.size
    · have hne := drop_cons s k hlt
      have hR := qdec_round hd hne
      have hle := qStep_le s[k] (s.data.toList.drop (k + 1))
      rw [List.length_drop, toList_length] at hle
      have hdd : ∀ n, (s.data.toList.drop k).drop n = s.data.toList.drop (k + n) := fun n => by rw [List.drop_drop]
      rcases qStep_cases s[k] (s.data.toList.drop (k + 1)) with ⟨h95, hp⟩ | ⟨h61, b, hx, hp, hl⟩ | ⟨h61, hx, hp⟩ | ⟨h95, h61, hp⟩
      · rw [hp, hdd] at hR
        have HR := hide hR
        have t0 : ((s[k].toNat : Int) == 95) = true := tT 95 h95 (by omega)
        clear hR hp hne hd hle hdd h95
        go_wp2_with (refine wpList_buf_const rfl _ _ rfl w.heap.size u3 acc rfl w wr 32 32 rfl HB.out rfl (by omega) ?_; intro v2 w2 hb2 _; have HB2 := hide hb2; clear hb2)
        go_roundw
        case rel => exact ⟨k + 1, acc ++ [32], by omega, by go_num, HB2.out, by simp; omega, HR.out⟩
        case measure => simp [intOf]; omega
      · rw [hp, hdd] at hR
        rw [hp] at hle
        rw [List.length_drop, toList_length] at hl
        have HR := hide hR
        have t0 : ((s[k].toNat : Int) == 61) = true := tT 61 h61 (by omega)
        have t1 : ((s[k].toNat : Int) == 95) = false := tF 95 (by rw [h61]; decide) (by omega)
        have HV : Hid (fromHexV (s.data.toList.drop (k + 1)) = .tuple #[.int .u8 b.toNat, .bool true]) := by unfold fromHexV; rw [hx]; exact hide rfl
        have HX1 := hide (extract_end s (k + 1))
        have HX := hide (show (s.extract (k + 1) s.size).size ≤ maxLen by rw [ByteArray.size_extract]; unfold maxLen; omega)
        clear hR hp hne hd hle hdd h61 hx
        go_wp2_with fail
        refine (fromHex_any _ _ HX.out).mono ?_
        rintro e w1 ⟨rfl, hb1⟩
        rw [HX1.out, HV.out]
        have HB1 := hide (HB.out.kept hb1)
        go_wp2_with (refine wpList_buf_byte rfl _ _ rfl w.heap.size u3 acc rfl w w1 b HB1.out rfl (by omega) ?_; intro v2 w2 hb2; have HB2 := hide hb2; clear hb2)
        go_roundw
        case rel => exact ⟨k + 3, acc ++ [b], by omega, by go_num, HB2.out, by simp; omega, HR.out⟩
        case measure => simp [intOf]; omega
      · rw [hp, hdd] at hR
        have HR := hide hR
        have t0 : ((s[k].toNat : Int) == 61) = true := tT 61 h61 (by omega)
        have t1 : ((s[k].toNat : Int) == 95) = false := tF 95 (by rw [h61]; decide) (by omega)
        have HV : Hid (fromHexV (s.data.toList.drop (k + 1)) = .tuple #[.int .u8 0, .bool false]) := by unfold fromHexV; rw [hx]; exact hide rfl
        have HX1 := hide (extract_end s (k + 1))
        have HX := hide (show (s.extract (k + 1) s.size).size ≤ maxLen by rw [ByteArray.size_extract]; unfold maxLen; omega)
        have H61 := hide h61
        clear hR hp hne hd hle hdd h61 hx
        go_wp2_with fail
        refine (fromHex_any _ _ HX.out).mono ?_
        rintro e w1 ⟨rfl, hb1⟩
        rw [HX1.out, HV.out]
        have HB1 := hide (HB.out.kept hb1)
        go_wp2_with (refine wpList_buf_byte rfl _ _ rfl w.heap.size u3 acc rfl w w1 s[k] HB1.out rfl (by omega) ?_; intro v2 w2 hb2; have HB2 := hide hb2; clear hb2)
        go_roundw
        case rel => exact ⟨k + 1, acc ++ [s[k]], by omega, by go_num, HB2.out, by simp; omega, HR.out⟩
        case measure => simp [intOf]; omega
      · rw [hp, hdd] at hR
        have HR := hide hR
        have t0 : ((s[k].toNat : Int) == 61) = false := tF 61 h61 (by omega)
        have t1 : ((s[k].toNat : Int) == 95) = false := tF 95 h95 (by omega)
        clear hR hp hne hd hle hdd h61 h95
        go_wp2_with (refine wpList_buf_byte rfl _ _ rfl w.heap.size u3 acc rfl w wr s[k] HB.out rfl (by omega) ?_; intro v2 w2 hb2; have HB2 := hide hb2; clear hb2)
        go_roundw
        case rel => exact ⟨k + 1, acc ++ [s[k]], by omega, by go_num, HB2.out, by simp; omega, HR.out⟩
        case measure => simp [intOf]; omega
    · have hcv := HB.out.convert
      go_wp2
      go_ret
      refine ⟨?_, HB.out.below⟩
      rw [drop_nil s k (by omega), qdec_nil, List.append_nil] at hd
      exact ret_str (by rw [hd])
end Go.Proofs.YtienjpelmbldpaaGreatDoor

/- WALK of strings.IndexRune beyond ASCII; a sign's bytes. No statement is proved here. -/
namespace Go.Proofs.YtienjpelmbldpaaGreatDoor
open Go.RowKit
set_option linter.unusedVariables false
set_option linter.unusedSimpArgs false

theorem indexByte_high (l : List UInt8) (c : UInt8) (h : ∀ x ∈ l, x.toNat < 128) (hc : 128 ≤ c.toNat) : Lib.indexByte l c = -1 := by
  induction l with
  | nil => rfl
  | cons a r ih =>
    have ha := h a (List.mem_cons_self ..)
    have hne : (a == c) = false := by
      rw [beq_eq_false_iff_ne]; rintro rfl; omega
    simp [Lib.indexByte, hne, ih (fun x hx => h x (List.mem_cons_of_mem _ hx))]

/-- a quiet call behind a quiet region -/
theorem quiet_add_same {P : Program} {f : FuncId} {args : Array Value} {w : World} {a n : Nat} {v : Value}
    (h : Calls P f args (w.drewN (a + n)) fun e w' => e = .returned v ∧ w' = w.drewN (a + n)) :
    Calls P f args (w.drewN (a + n)) fun e w'' => e = .returned v ∧ ∃ m, w'' = w.drewN (a + m) :=
  h.mono fun _ _ ⟨he, hm⟩ => ⟨he, n, hm⟩

set_option maxRecDepth 100000 in
set_option maxHeartbeats 1000000 in
/-- a sign beyond ASCII is in no text of ASCII bytes -/
theorem indexRune_high (s : ByteArray) (r : Int) (w : World) (hs : s.size ≤ 100) (ha : s.data.toList.all (fun c => decide (c.toNat < 128)) = true) (h1 : 128 ≤ r) (h2 : r ≤ 2147483647) :
    Calls Tryz.prog 109 #[.string s, .int .i32 r] w fun e w' => e = .returned (.int .i64 (-1)) ∧ Below w.heap.size w w' := by
  have h3 : ¬ r < 128 := by omega
  have h4 : 0 ≤ r := by omega
  by_cases he : r = 65533
  · subst he
    have HA := hide ha
    clear ha
    go_enter Tryz.func109, Tryz.ntmps109
    go_wp2
    go_loopw [5, 6] (fun _ _ wr => ∃ pos : Nat, pos ≤ s.size ∧ wr = w.iter s pos) (fun _ _ wr => s.size - wr.iterPos w.heap.size)
    case atStart => exact ⟨0, Nat.zero_le _, rfl⟩
    case round =>
      obtain ⟨pos, hp, rfl⟩ := hrel
      by_cases hlt : pos < s.size
      · obtain ⟨x, hx, hx1, hnx⟩ := next_ascii (P := Tryz.prog) w s pos hlt HA.out
        clear hx
        have hne : ((x.toNat : Int) == 65533) = false := by rw [beq_eq_false_iff_ne]; omega
        go_wp2
        go_roundw
        case rel => exact ⟨pos + 1, by omega, rfl⟩
        case measure => simp; omega
      · obtain rfl : pos = s.size := by omega
        have hnx := run_next_end (P := Tryz.prog) w s s.size
        go_wp2
        go_ret
        exact ⟨rfl, iter_below _ _ _⟩
  · have hne : (r == 65533) = false := by rw [beq_eq_false_iff_ne]; exact he
    cases hv : Utf8.valid r with
    | false =>
      have HV : Hid (Lib.validRune r = false) := hide (by rw [show Lib.validRune r = Go.validRune r from rfl, ← validRune_eq]; exact hv)
      clear hv he
      go_enter Tryz.func109, Tryz.ntmps109
      go_wp2_with fail
      refine (Tryz.utf8_ValidRune r _).mono ?_
      rintro e w' ⟨rfl, hw⟩
      subst hw
      rw [HV.out]
      go_wp2_with fail
      go_ret
      exact ⟨rfl, Below.refl _ _⟩
    | true =>
      obtain ⟨e1, e2, e3⟩ := encode_facts r hv h1
      have HV : Hid (Lib.validRune r = true) := hide (by rw [show Lib.validRune r = Go.validRune r from rfl, ← validRune_eq]; exact hv)
      clear hv he
      obtain ⟨E, hE⟩ : ∃ E, E = Utf8.encode r := ⟨_, rfl⟩
      rw [← hE] at e1 e2 e3
      have hcv : ∀ w : World, (convert 21 9 (.int .i32 r)).run Tryz.prog w = .ok (.string E) w := fun w => by
        rw [hE]; exact run_convert_int_string w 21 9 .i32 r (by rw [Tryz.underlying21]; rfl) Tryz.underlying9
      clear hE
      obtain ⟨m, hm⟩ : ∃ m : Nat, E.size = m + 1 := ⟨E.size - 1, by omega⟩
      have hm1 : m < E.size := by omega
      have hb : 128 ≤ (E[m]'hm1).toNat := by
        have : ∀ j (h : j < E.size), j = E.size - 1 → 128 ≤ (E[j]'h).toNat := fun j h e => by subst e; exact e3 h
        exact this m hm1 (by omega)
      have hmm : (m : Int) < (m : Int) + 1 := by omega
      have hw : IntKind.i64.wrap ((m : Int) + 1) = (m : Int) + 1 := IntWalk.i64_in _ (by omega)
      clear e3
      by_cases hlt : m < s.size
      · have hsm : (s[m]'hlt).toNat < 128 := by
          have := List.all_eq_true.1 ha s[m] (by rw [← Array.mem_def]; exact Array.getElem_mem (by exact hlt))
          simpa using this
        have hne2 : ((s[m].toNat : Int) != (E[m].toNat : Int)) = true := by
          rw [bne_iff_ne]; omega
        have hix : Lib.indexByte (s.extract (m + 1) s.size).data.toList (E[m].toNat : Int).toNat.toUInt8 = -1 := by
          refine indexByte_high _ _ (fun x hx => ?_) (by simp; exact hb)
          have := List.all_eq_true.1 ha x (mem_extract hx)
          simpa using this
        have HIX := hide hix
        have o0 : (0 : Int) ≤ m := by omega
        have o1 : (m : Int) + 1 ≤ s.size := by omega
        have o3 : (0 : Int) ≤ (m : Int) + 1 := by omega
        have o4 : ((m : Int) + 1).toNat = m + 1 := by omega
        clear ha hb hix
        go_enter Tryz.func109, Tryz.ntmps109
        go_wp2_with fail
        refine (Tryz.utf8_ValidRune r _).mono ?_
        rintro e w' ⟨rfl, hw⟩
        subst hw
        rw [HV.out]
        go_wp2_with fail
        go_step3
        go_wp2
        go_loop [9, 10, 11, 12] (fun i f _ _ => i = .int .i64 m ∧ f = .int .i64 0) (fun _ _ _ _ => 0)
        case atStart => exact ⟨rfl, rfl⟩
        case round =>
          obtain ⟨rfl, rfl⟩ := hrel
          go_wp2
          go_step3
          go_wp2
          go_quiet (fail)
          go_wp2
          go_quiet ((go_at_call 120; exact quiet_add_same (Tryz.strings_IndexByte _ _ _)))
          rw [HIX.out]
          go_wp2
          simp +zetaDelta only [Exit.noGoto_ret, go_sem]
          go_ret
          exact ⟨rfl, ⟨rfl, rfl, rfl, Nat.le_refl _, fun _ _ => rfl⟩⟩
      · have o4 : ((m : Int) + 1).toNat = m + 1 := by omega
        clear ha hb
        go_enter Tryz.func109, Tryz.ntmps109
        go_wp2_with fail
        refine (Tryz.utf8_ValidRune r _).mono ?_
        rintro e w' ⟨rfl, hw⟩
        subst hw
        rw [HV.out]
        go_wp2_with fail
        go_step3
        go_wp2
        go_loop [9, 10, 11, 12] (fun i f _ _ => i = .int .i64 m ∧ f = .int .i64 0) (fun _ _ _ _ => 0)
        case atStart => exact ⟨rfl, rfl⟩
        case round =>
          obtain ⟨rfl, rfl⟩ := hrel
          go_wp2
          try simp +zetaDelta only [Exit.noGoto_ret, go_sem]
          go_ret
          exact ⟨rfl, Below.refl _ _⟩

theorem decode_high_or (s : ByteArray) (pos : Nat) (h : pos < s.size) : (s[pos].toNat < 128 ∧ Utf8.decode s pos = (s[pos].toNat, 1)) ∨ (128 ≤ s[pos].toNat ∧ 128 ≤ (Utf8.decode s pos).1 ∧ 1 ≤ (Utf8.decode s pos).2) := by
  by_cases ha : s[pos].toNat < 128
  · refine .inl ⟨ha, ?_⟩
    simp only [Utf8.decode, get_at s pos h, ha, if_true]
  · exact .inr ⟨by omega, decode_high s pos h (by omega)⟩

theorem not_contains_high {l : List UInt8} (h : l.all (fun c => decide (c.toNat < 128)) = true) {c : UInt8} (hc : 128 ≤ c.toNat) : l.contains c = false := by
  cases hm : l.contains c with
  | false => rfl
  | true =>
    have := List.all_eq_true.1 h c (by simpa using hm)
    have h2 : c.toNat < 128 := by simpa using this
    omega

/-- the bytes of a sign that is read are its first byte and bytes beyond ASCII -/
theorem decode_span (s : ByteArray) (pos : Nat) (h : pos < s.size) (ha : 128 ≤ s[pos].toNat) : ∀ j, pos ≤ j → j < pos + (Utf8.decode s pos).2 → ∀ b, s.data.toList[j]? = some b → 128 ≤ b.toNat := by
  intro j h1 h2 b hb
  rcases Nat.eq_or_lt_of_le h1 with rfl | h1
  · rw [List.getElem?_eq_getElem (by rw [toList_length]; exact h)] at hb
    rw [← Option.some.inj hb]; exact ha
  · have hj : j < s.size := by have := (List.getElem?_eq_some_iff.1 hb).1; rwa [toList_length] at this
    have e := decode_decL s pos h
    have hsp := decL_spec (s.data.toList.drop pos) (by rw [drop_cons s pos h]; simp)
    rw [e, hsp.2.1] at h2
    by_cases hz : wholeN (s.data.toList.drop pos) = 0
    · rw [vStep_zero hz] at h2
      simp at h2; omega
    · rw [vStep_pos rfl hz] at h2
      simp only at h2
      have hw := whole_first hz
      have := hw.2 (j - pos) (by omega) (by omega)
      rw [List.getD_eq_getElem?_getD, List.getElem?_drop, Nat.add_sub_cancel' (by omega), hb] at this
      have := (contB_iff b).1 this
      omega

theorem decode_end (s : ByteArray) (pos : Nat) (h : pos < s.size) : pos + (Utf8.decode s pos).2 ≤ s.size := by
  have hne : s.data.toList.drop pos ≠ [] := by rw [drop_cons s pos h]; simp
  have hsp := decL_spec _ hne
  have hst := vStep_pos' _ hne
  rw [List.length_drop, toList_length] at hst
  rw [decode_decL s pos h, hsp.2.1]; omega
end Go.Proofs.YtienjpelmbldpaaGreatDoor

/- WALKS of strings.IndexAny and ContainsAny at any text and a set of ASCII bytes. No statement is proved here. -/
namespace Go.Proofs.YtienjpelmbldpaaGreatDoor
open Go.RowKit
set_option linter.unusedVariables false
set_option linter.unusedSimpArgs false

/-- is one of the bytes of cs in l? -/
def hasAny (cs l : List UInt8) : Bool := l.any fun c => cs.contains c

theorem noAny_step {s : ByteArray} {cs : List UInt8} {pos n : Nat} (h : Lib.NoAny s.data.toList cs pos) (hn : ∀ j, pos ≤ j → j < pos + n → ∀ b, s.data.toList[j]? = some b → cs.contains b = false) : Lib.NoAny s.data.toList cs (pos + n) := by
  intro j b hj hb
  rcases Nat.lt_or_ge j pos with h1 | h1
  · exact h j b h1 hb
  · exact hn j h1 hj b hb
set_option maxRecDepth 100000 in
set_option maxHeartbeats 1000000 in
theorem indexAny_short (s cs : ByteArray) (w : World) (h2 : 2 ≤ cs.size) (hcs : cs.size ≤ 100) (h8 : s.size ≤ 8) (ha : cs.data.toList.all (fun c => decide (c.toNat < 128)) = true) :
    Calls Tryz.prog 80 #[.string s, .string cs] w fun e w' => e = .returned (.int .i64 (Lib.indexAny s.data.toList cs.data.toList)) ∧ Below w.heap.size w w' := by
  have hemp : cs.toList.isEmpty = false := by
    rw [Lib.toList_data]
    cases h : cs.data.toList with
    | nil => have := Lib.size_eq cs; rw [h, List.length_nil] at this; omega
    | cons _ _ => rfl
  have hn1 : ((cs.size : Int) == 1) = false := beq_eq_false_iff_ne.2 (by omega)
  have h8z : decide ((8 : Int) < (s.size : Int)) = false := decide_eq_false (by omega)
  have HA := hide ha
  clear ha
  go_enter Tryz.func80, Tryz.ntmps80
  go_wp2_with fail
  refine (Tryz.strings_shouldUseASCIISet _ _).mono ?_
  rintro e w1 ⟨rfl, hw1⟩
  subst hw1
  rw [h8z]
  go_wp2_with fail
  have hit : (w1.iter s 0).heap[w1.heap.size]? = some (Obj.stringIter s 0) := heap_alloc_new w1 _
  have hb0 : Below w1.heap.size w1 (w1.iter s 0) := iter_below w1 s 0
  have hg0 : w1.heap.size < (w1.iter s 0).heap.size := (Array.getElem?_eq_some_iff.1 hit).1
  go_loopw [9, 10] (fun _ _ wr => ∃ pos : Nat, pos ≤ s.size ∧ wr.heap[w1.heap.size]? = some (Obj.stringIter s pos) ∧ Below w1.heap.size w1 wr ∧ Lib.NoAny s.data.toList cs.data.toList pos) (fun _ _ wr => s.size - wr.iterPos w1.heap.size)
  case atStart => exact ⟨0, Nat.zero_le _, hit, hb0, Lib.NoAny.zero _ _⟩
  case round =>
    obtain ⟨pos, hpos, hk, hb, hno⟩ := hrel
    have HK := hide hk
    have HB := hide hb
    have HN := hide hno
    have hsz : w1.heap.size < wr.heap.size := (Array.getElem?_eq_some_iff.1 hk).1
    clear hk hb hno
    by_cases hlt : pos < s.size
    · have hnx := fun ty => Lib.run_next_any_at (P := Tryz.prog) wr w1.heap.size s pos ty HK.out hlt
      have hle := decode_le s pos
      rcases decode_high_or s pos hlt with ⟨hx, hdec⟩ | ⟨hx, hd1, hd2⟩
      · rw [hdec] at hnx
        have hg : s.data.toList[pos]? = some s[pos] := by rw [List.getElem?_eq_getElem (by rw [toList_length]; exact hlt)]; rfl
        have hcon := Lib.contains_iff_indexByte cs.data.toList s[pos]
        have hback : ((s[pos].toNat : Int)).toNat.toUInt8 = s[pos] := by simp
        have HI := hide (Lib.iterAt_heap wr w1.heap.size s pos (pos + 1) HK.out)
        have HB1 := hide (Lib.below_iterAt HB.out (Nat.le_refl _) s (pos + 1))
        have HG := hide hg
        clear hdec hg
        cases hin : cs.data.toList.contains s[pos]
        · rw [hin] at hcon
          have hlt2 : ¬ ((0 : Int) ≤ Lib.indexByte cs.data.toList s[pos]) := of_decide_eq_false hcon.symm
          have HIN := hide hin
          clear hcon hin
          go_wp2_with fail
          refine (Tryz.strings_IndexRune_ascii _ _ _ (by omega) (by omega)).mono ?_
          rintro e w2 ⟨rfl, hw2⟩
          subst hw2
          rw [hback]
          go_wp2_with fail
          go_roundw
          case rel => exact ⟨pos + 1, by omega, HI.out, HB1.out, HN.out.succ HG.out HIN.out⟩
          case measure =>
            rw [show World.iterPos (World.iterAt wr w1.heap.size s (pos + 1)) w1.heap.size = pos + 1 by unfold World.iterPos; rw [HI.out], show World.iterPos wr w1.heap.size = pos by unfold World.iterPos; rw [HK.out]]
            omega
        · rw [hin] at hcon
          have hge : (0 : Int) ≤ Lib.indexByte cs.data.toList s[pos] := of_decide_eq_true hcon.symm
          have HIN := hide hin
          clear hcon hin
          go_wp2_with fail
          refine (Tryz.strings_IndexRune_ascii _ _ _ (by omega) (by omega)).mono ?_
          rintro e w2 ⟨rfl, hw2⟩
          subst hw2
          rw [hback]
          go_wp2_with fail
          go_ret
          exact ⟨ret_int (by rw [Lib.indexAny_hit HN.out HG.out HIN.out]), HB1.out⟩
      · have hsp := decode_span s pos hlt hx
        have hle2 := decode_end s pos hlt
        generalize Utf8.decode s pos = dl at hnx hd1 hd2 hle hsp hle2
        obtain ⟨r, n⟩ := dl
        simp only at hnx hd1 hd2 hle hsp hle2
        have HI := hide (Lib.iterAt_heap wr w1.heap.size s pos (pos + n) HK.out)
        have HB1 := hide (Lib.below_iterAt HB.out (Nat.le_refl _) s (pos + n))
        have HN2 := hide (noAny_step HN.out fun j h1 h2 b hb => not_contains_high HA.out (hsp j h1 h2 b hb))
        clear hsp
        go_wp2_with fail
        refine (indexRune_high cs (r : Int) _ (by omega) HA.out (by omega) (by omega)).mono ?_
        rintro e w2 ⟨rfl, hb2⟩
        have HI2 := hide ((hb2.block _ (by rw [Lib.iterAt_size]; exact hsz)).trans HI.out)
        have HB2 := hide (HB1.out.trans (hb2.mono (by rw [Lib.iterAt_size]; exact HB.out.size)))
        clear hb2
        go_wp2_with fail
        go_roundw
        case rel => exact ⟨pos + n, by omega, HI2.out, HB2.out, HN2.out⟩
        case measure =>
          have e1 : World.iterPos w2 w1.heap.size = pos + n := by unfold World.iterPos; rw [HI2.out]
          have e2 : World.iterPos wr w1.heap.size = pos := by unfold World.iterPos; rw [HK.out]
          rw [e1, e2]; omega
    · have hnx := fun ty => Lib.run_next_end_at (P := Tryz.prog) wr w1.heap.size s pos ty HK.out hlt
      go_wp2
      go_ret
      exact ⟨ret_int (by rw [Lib.indexAny_none (by rw [← Lib.size_eq]; exact fun j b hj => HN.out j b (by omega))]), HB.out⟩
theorem hasAny_index (cs l : List UInt8) : Lib.containsAny l cs = hasAny cs l := by
  unfold Lib.containsAny hasAny
  induction l with
  | nil => rfl
  | cons a r ih =>
    rw [List.any_cons, ← ih]
    have hge := Lib.indexAny_ge cs r
    by_cases h : cs.contains a = true
    · have e : Lib.indexAny (a :: r) cs = 0 := by simp only [Lib.indexAny]; exact if_pos h
      rw [decide_eq_true (show 0 ≤ Lib.indexAny (a :: r) cs by omega), h]; rfl
    · have hf : cs.contains a = false := by simpa using h
      rw [hf, Bool.false_or]
      have e : Lib.indexAny (a :: r) cs = if (Lib.indexAny r cs == -1) = true then -1 else Lib.indexAny r cs + 1 := by simp only [Lib.indexAny]; exact if_neg h
      by_cases h0 : Lib.indexAny r cs = -1
      · rw [if_pos (beq_iff_eq.2 h0)] at e
        rw [decide_eq_false (show ¬ 0 ≤ Lib.indexAny (a :: r) cs by omega), decide_eq_false (show ¬ 0 ≤ Lib.indexAny r cs by omega)]
      · rw [if_neg (fun x => h0 (beq_iff_eq.1 x))] at e
        rw [decide_eq_true (show 0 ≤ Lib.indexAny (a :: r) cs by omega), decide_eq_true (show 0 ≤ Lib.indexAny r cs by omega)]

set_option maxRecDepth 100000 in
set_option maxHeartbeats 1000000 in
theorem containsAny_any (s cs : ByteArray) (w : World) (h2 : 2 ≤ cs.size) (hcs : cs.size ≤ 100) (hs : s.size ≤ 1048576) (ha : cs.data.toList.all (fun c => decide (c.toNat < 128)) = true) :
    Calls Tryz.prog 51 #[.string s, .string cs] w fun e w' => e = .returned (.bool (hasAny cs.data.toList s.data.toList)) ∧ Below w.heap.size w w' := by
  have key : Calls Tryz.prog 80 #[.string s, .string cs] w fun e w' => e = .returned (.int .i64 (Lib.indexAny s.data.toList cs.data.toList)) ∧ Below w.heap.size w w' := by
    by_cases h8 : s.size ≤ 8
    · exact indexAny_short s cs w h2 hcs h8 ha
    · exact (Tryz.strings_IndexAny_long (zero_of_info (n := 256) (by kernel_rfl)).1 s cs w h2 (by omega) (by omega) (by omega) (ascii_of_all ha)).mono fun e w' ⟨he, hw⟩ => ⟨he, by rw [hw]; exact ((Below.refl _ _).alloc (Nat.le_refl _) _).alloc (by simp) _⟩
  have HK := hide key
  have HR := hide (hasAny_index cs.data.toList s.data.toList)
  clear key ha
  go_enter Tryz.func51, Tryz.ntmps51
  go_wp2_with fail
  refine HK.out.mono ?_
  rintro e w1 ⟨rfl, hb1⟩
  go_wp2_with fail
  go_ret
  exact ⟨ret_bool (by rw [← HR.out]; rfl), hb1⟩
end Go.Proofs.YtienjpelmbldpaaGreatDoor

/- WALK of strings.Cut at a text of one byte. No statement is proved here. -/
namespace Go.Proofs.YtienjpelmbldpaaGreatDoor
open Go.RowKit
set_option linter.unusedVariables false
set_option linter.unusedSimpArgs false

theorem index_cut (c : UInt8) (l : List UInt8) : (Lib.indexByte l c = -1 ∧ c ∉ l ∧ beforeC c l = l ∧ afterC c l = []) ∨ ∃ o : Nat, Lib.indexByte l c = o ∧ o < l.length ∧ c ∈ l ∧ beforeC c l = l.take o ∧ afterC c l = l.drop (o + 1) := by
  induction l with
  | nil => exact .inl ⟨rfl, by simp, rfl, rfl⟩
  | cons a r ih =>
    by_cases h : a = c
    · subst h
      have := cut_at a (a :: r) 0 (by simp) rfl (fun j hj => absurd hj (by omega))
      exact .inr ⟨0, by simp [Lib.indexByte], by simp, this.1, this.2.1, this.2.2⟩
    · have h1 : (a == c) = false := by simp [h]
      have h2 : (a != c) = true := by simp [h]
      have eb : beforeC c (a :: r) = a :: beforeC c r := by simp [beforeC, List.takeWhile_cons, h2]
      have ea : afterC c (a :: r) = afterC c r := by simp [afterC, List.dropWhile_cons, h2]
      rcases ih with ⟨i1, i2, i3, i4⟩ | ⟨o, i1, i2, i3, i4, i5⟩
      · refine .inl ⟨by simp [Lib.indexByte, h1, i1], ?_, by rw [eb, i3], by rw [ea, i4]⟩
        intro hm
        rcases List.mem_cons.1 hm with e | e
        · exact h e.symm
        · exact i2 e
      · have hne : ((o : Int) == -1) = false := by rw [beq_eq_false_iff_ne]; omega
        refine .inr ⟨o + 1, by simp [Lib.indexByte, h1, i1, hne], by simp; omega, List.mem_cons_of_mem _ i3, by rw [eb, i4]; rfl, by rw [ea, i5]; rfl⟩

/-- what Cut answers -/
def cutV (c : UInt8) (l : List UInt8) : Value := .tuple #[.string (str (beforeC c l)), .string (str (afterC c l)), .bool (hasC c l)]
theorem ret_cut {a b x y : ByteArray} {d e : Bool} (h : a = b) (h' : x = y) (h'' : d = e) : Ending.returned (.tuple #[.string a, .string x, .bool d]) = .returned (.tuple #[.string b, .string y, .bool e]) := by rw [h, h', h'']
set_option maxHeartbeats 1000000 in
theorem cut_any (s : ByteArray) (c : UInt8) (w : World) (hs : s.size ≤ 70368744177664) :
    Calls Tryz.prog 61 #[.string s, .string ⟨#[c]⟩] w fun e w' => e = .returned (cutV c s.data.toList) ∧ Below w.heap.size w w' := by
  have hz : (⟨#[c]⟩ : ByteArray).size = 1 := rfl
  rcases index_cut c s.data.toList with ⟨i1, i2, i3, i4⟩ | ⟨o, i1, i2, i3, i4, i5⟩
  · have I1 := hide i1
    have I2 := hide i2
    have I3 := hide i3
    have I4 := hide i4
    clear i1 i2 i3 i4
    go_enter Tryz.func61, Tryz.ntmps61
    go_wp2_with fail
    refine (Tryz.stringslite_Index_one s c _).mono ?_
    rintro e w1 ⟨rfl, hw⟩
    subst hw
    rw [I1.out]
    go_wp2_with fail
    go_ret3
    exact ⟨ret_cut (by rw [I3.out, str_of]) (by rw [I4.out]; rfl) (by rw [hasC_false I2.out]), Below.refl _ _⟩
  · have I1 := hide i1
    have I3 := hide i3
    have I4 := hide i4
    have I5 := hide i5
    rw [toList_length] at i2
    have o1 : (o : Int) + 1 ≤ s.size := by omega
    have o0 : (0 : Int) ≤ o := by omega
    have o2 : (o : Int) ≤ s.size := by omega
    have o3 : (0 : Int) ≤ (o : Int) + 1 := by omega
    have o4 : ((o : Int) + 1).toNat = o + 1 := by omega
    clear i1 i3 i4 i5
    go_enter Tryz.func61, Tryz.ntmps61
    go_wp2_with fail
    refine (Tryz.stringslite_Index_one s c _).mono ?_
    rintro e w1 ⟨rfl, hw⟩
    subst hw
    rw [I1.out]
    go_wp2_with fail
    go_region
    all_goals (try go_wp2)
    all_goals
      go_ret3
      exact ⟨ret_cut (ext_list (by rw [extract_list, List.drop_zero, str_toList, I4.out])) (ext_list (by rw [extract_end, str_toList, I5.out])) (by rw [hasC_true I3.out]), (Below.refl _ _).drew⟩

set_option maxHeartbeats 1000000 in
theorem strCut_any (s : ByteArray) (c : UInt8) (w : World) (hs : s.size ≤ 70368744177664) :
    Calls Tryz.prog 41 #[.string s, .string ⟨#[c]⟩] w fun e w' => e = .returned (cutV c s.data.toList) ∧ Below w.heap.size w w' := by
  go_enter Tryz.func41, Tryz.ntmps41
  go_wp2_with fail
  refine (cut_any s c _ hs).mono ?_
  rintro e w1 ⟨rfl, hb⟩
  unfold cutV
  go_wp2_with fail
  go_ret3
  exact ⟨rfl, hb⟩
end Go.Proofs.YtienjpelmbldpaaGreatDoor

/- WALK of the closure of package b64 that gathers bits. No statement is proved here. -/
namespace Go.Proofs.YtienjpelmbldpaaGreatDoor
open Go.RowKit
set_option linter.unusedVariables false
set_option maxRecDepth 100000
set_option linter.unusedSimpArgs false

namespace WalkArithU64
theorem u64_in' (n : Nat) (h : n < 18446744073709551616) : IntKind.u64.wrap (n : Int) = n := by rw [IntKind.wrap_u64]; omega
end WalkArithU64
/-- where the gathering closure keeps its variables, and what they hold -/
structure Gat (size : Nat) (hf : FuncId) (B bw bh bs bd bo : Nat) (h wv : Nat) (w : World) : Prop where
  w1 : Box w bw 96 (.int .u64 wv)
  h1 : Box w bh 3 (.int .i64 h)
  s1 : Box w bs 3 (.int .i64 size)
  d1 : Box w bd 107 (.func (.func hf) #[] #[.pointer (some ⟨bo, 0, none⟩)])
  hs : bh ≠ bs
  lw : B ≤ bw
  lh : B ≤ bh
  no : bh ≠ bo
  wo : bw ≠ bo
  so : bs ≠ bo
  eo : bd ≠ bo

/-- pieces are handed on as long as there are enough bits -/
def runBits (size : Nat) (f : Nat → UInt8) (h wv : Nat) (acc : List UInt8) : Nat × Nat × List UInt8 :=
  if h0 : 0 < size ∧ size ≤ h then runBits size f (h - size) (wv % 2 ^ (h - size)) (acc ++ [f (wv / 2 ^ (h - size))]) else (h, wv, acc)
termination_by h
decreasing_by omega

theorem Gat.bw_bh {size : Nat} {hf : FuncId} {B bw bh bs bd bo h wv : Nat} {w : World} (g : Gat size hf B bw bh bs bd bo h wv w) : bw ≠ bh ∧ bw ≠ bs ∧ bw ≠ bd ∧ bh ≠ bd :=
  ⟨g.w1.ne g.h1 (by decide), g.w1.ne g.s1 (by decide), g.w1.ne g.d1 (by decide), g.h1.ne g.d1 (by decide)⟩
theorem Gat.setW {size : Nat} {hf : FuncId} {B bw bh bs bd bo h wv : Nat} {w : World} (g : Gat size hf B bw bh bs bd bo h wv w) (x : Nat) : Gat size hf B bw bh bs bd bo h x (w.setCell ⟨bw, 0, none⟩ (.int .u64 x)) := by
  obtain ⟨n1, n2, n3, n4⟩ := g.bw_bh
  exact ⟨g.w1.set _, g.h1.far (Ne.symm n1) _, g.s1.far (Ne.symm n2) _, g.d1.far (Ne.symm n3) _, g.hs, g.lw, g.lh, g.no, g.wo, g.so, g.eo⟩
theorem Gat.setH {size : Nat} {hf : FuncId} {B bw bh bs bd bo h wv : Nat} {w : World} (g : Gat size hf B bw bh bs bd bo h wv w) (x : Nat) : Gat size hf B bw bh bs bd bo x wv (w.setCell ⟨bh, 0, none⟩ (.int .i64 x)) := by
  obtain ⟨n1, n2, n3, n4⟩ := g.bw_bh
  exact ⟨g.w1.far n1 _, g.h1.set _, g.s1.far (Ne.symm g.hs) _, g.d1.far (Ne.symm n4) _, g.hs, g.lw, g.lh, g.no, g.wo, g.so, g.eo⟩
theorem Gat.drew {size : Nat} {hf : FuncId} {B bw bh bs bd bo h wv : Nat} {w : World} (g : Gat size hf B bw bh bs bd bo h wv w) : Gat size hf B bw bh bs bd bo h wv w.drew :=
  ⟨g.w1, g.h1, g.s1, g.d1, g.hs, g.lw, g.lh, g.no, g.wo, g.so, g.eo⟩
theorem Gat.drewN {size : Nat} {hf : FuncId} {B bw bh bs bd bo h wv : Nat} {w : World} (g : Gat size hf B bw bh bs bd bo h wv w) (n : Nat) : Gat size hf B bw bh bs bd bo h wv (w.drewN n) :=
  ⟨g.w1, g.h1, g.s1, g.d1, g.hs, g.lw, g.lh, g.no, g.wo, g.so, g.eo⟩
theorem Gat.kept {size : Nat} {hf : FuncId} {B bw bh bs bd bo h wv : Nat} {w w' : World} (g : Gat size hf B bw bh bs bd bo h wv w) (k : KeptBut bo w w') : Gat size hf B bw bh bs bd bo h wv w' :=
  ⟨k _ _ _ (by decide) g.wo g.w1, k _ _ _ (by decide) g.no g.h1, k _ _ _ (by decide) g.so g.s1, k _ _ _ (by decide) g.eo g.d1, g.hs, g.lw, g.lh, g.no, g.wo, g.so, g.eo⟩
theorem Gat.alloc {size : Nat} {hf : FuncId} {B bw bh bs bd bo h wv : Nat} {w : World} (g : Gat size hf B bw bh bs bd bo h wv w) (o : Obj) : Gat size hf B bw bh bs bd bo h wv (w.alloc o) :=
  ⟨g.w1.alloc o, g.h1.alloc o, g.s1.alloc o, g.d1.alloc o, g.hs, g.lw, g.lh, g.no, g.wo, g.so, g.eo⟩
theorem Out.setW {size : Nat} {hf : FuncId} {B bw bh bs bd bo h wv : Nat} {l : List UInt8} {W0 w : World} (o : Out B bo l W0 w) (g : Gat size hf B bw bh bs bd bo h wv w) (x : Value) : Out B bo l W0 (w.setCell ⟨bw, 0, none⟩ x) := o.set g.w1 (by decide) g.wo g.lw x
theorem Out.setH {size : Nat} {hf : FuncId} {B bw bh bs bd bo h wv : Nat} {l : List UInt8} {W0 w : World} (o : Out B bo l W0 w) (g : Gat size hf B bw bh bs bd bo h wv w) (x : Value) : Out B bo l W0 (w.setCell ⟨bh, 0, none⟩ x) := o.set g.h1 (by decide) g.no g.lh x

theorem or_low (k a n : Nat) (hn : n < 2 ^ k) (h : a * 2 ^ k + n < 18446744073709551616) : bits .or .u64 ((a : Int) * 2 ^ k) (n : Int) = ((a * 2 ^ k + n : Nat) : Int) := by
  have e : ((a : Int) * 2 ^ k) = ((a * 2 ^ k : Nat) : Int) := by simp
  rw [e, bits_or_u64_nat _ _ (by omega) (by omega)]
  congr 1
  rw [Nat.mul_comm, Nat.two_pow_add_eq_or_of_lt hn]
theorem wrap_shl (k a : Nat) (h : a * 2 ^ k < 18446744073709551616) : IntKind.u64.wrap ((a : Int) * 2 ^ k) = (a : Int) * 2 ^ k := by
  have e : ((a : Int) * 2 ^ k) = ((a * 2 ^ k : Nat) : Int) := by simp
  rw [e]
  exact WalkArithU64.u64_in' _ (by omega)
theorem and_low (k a : Nat) (hk : k < 60) (ha : a < 18446744073709551616) : bits .and .u64 (a : Int) (IntKind.u64.wrap (IntKind.u64.wrap (2 ^ k) - 1)) = ((a % 2 ^ k : Nat) : Int) := by
  have hp := Nat.two_pow_pos k
  have hp2 : 2 ^ k < 18446744073709551616 := Nat.lt_of_lt_of_le (Nat.pow_lt_pow_right (by omega) hk) (by decide)
  have e : ((2 : Int) ^ k) = ((2 ^ k : Nat) : Int) := by simp
  rw [e, WalkArithU64.u64_in' _ hp2]
  have e2 : (((2 ^ k : Nat) : Int) - 1) = ((2 ^ k - 1 : Nat) : Int) := by omega
  rw [e2, WalkArithU64.u64_in' _ (by omega), bits_and_u64_nat _ _ ha (by omega), Nat.and_two_pow_sub_one_eq_mod]

set_option maxHeartbeats 2000000 in
theorem gatDec (B bw bh bs bd bo : Nat) (b h wv n : Nat) (acc : List UInt8) (W0 w : World) (hhb : h + b ≤ 13) (hw : wv < 2 ^ h) (hn : n < 2 ^ b)
    (hg : Gat 8 172 B bw bh bs bd bo h wv w) (ho : Out B bo acc W0 w) (hl : acc.length ≤ 1048576) :
    Calls Tryz.prog 136 #[.int .u64 n, .int .i64 b, .pointer (some ⟨bw, 0, none⟩), .pointer (some ⟨bh, 0, none⟩), .pointer (some ⟨bs, 0, none⟩), .pointer (some ⟨bd, 0, none⟩)] w fun e w' =>
      ∃ h' wv' acc', runBits 8 UInt8.ofNat (h + b) (wv * 2 ^ b + n) acc = (h', wv', acc') ∧ e = .returned (.int .i64 h') ∧ Gat 8 172 B bw bh bs bd bo h' wv' w' ∧ Out B bo acc' W0 w' := by
  have hm2 : wv * 2 ^ b + n < 2 ^ (h + b) := by
    rw [Nat.pow_add]
    have h1 : (wv + 1) * 2 ^ b ≤ 2 ^ h * 2 ^ b := Nat.mul_le_mul_right _ hw
    rw [Nat.add_mul] at h1
    omega
  have hm3 : 2 ^ (h + b) ≤ 8192 := Nat.pow_le_pow_right (n := 2) (i := h + b) (j := 13) (by omega) hhb
  have hor := or_low b wv n hn (by omega)
  have hwr := wrap_shl b wv (by omega)
  have hb0 : (0 : Int) ≤ b := by omega
  obtain ⟨m, hm⟩ : ∃ m, m = wv * 2 ^ b + n := ⟨_, rfl⟩
  rw [← hm] at hm2 hor ⊢
  have c1 := hg.w1.cell
  have f1 := hg.w1.free
  have hg1 := hg.setW m
  have ho1 := ho.setW hg (.int .u64 m)
  have c2 := hg1.h1.cell
  have f2 := hg1.h1.free
  have hg2 := hg1.setH (h + b)
  have ho2 := ho1.setH hg1 (.int .i64 (h + b : Nat))
  have HG := hide hg2
  have HO := hide ho2
  have HM := hide hm
  have HM2 := hide hm2
  clear hg ho hg1 ho1 hg2 ho2 hm hm2 hm3
  go_enter Tryz.func136, Tryz.ntmps136
  go_wp2_with fail
  go_loopw [17] (fun _ wr => ∃ (h' wv' : Nat) (acc' : List UInt8), runBits 8 UInt8.ofNat (h + b) m acc = runBits 8 UInt8.ofNat h' wv' acc' ∧ Gat 8 172 B bw bh bs bd bo h' wv' wr ∧ Out B bo acc' W0 wr ∧ h' ≤ 13 ∧ wv' < 2 ^ h' ∧ acc'.length + h' ≤ acc.length + h + b) (fun _ wr => (intOf ((wr.cell? ⟨bh, 0, none⟩).getD undef)).toNat)
  case atStart => exact ⟨h + b, m, acc, rfl, by simpa using HG.out, by simpa using HO.out, by omega, HM2.out, by omega⟩
  case round =>
    obtain ⟨h', wv', acc', hr, hg, ho, hh', hw', hl'⟩ := hrel
    have HR := hide hr
    clear hr
    have c1 := hg.w1.cell
    have c2 := hg.h1.cell
    have c3 := hg.s1.cell
    have c4 := hg.d1.cell
    have f2 := hg.h1.free
    by_cases h8 : 8 ≤ h'
    · obtain ⟨k, rfl⟩ : ∃ k, h' = k + 8 := ⟨h' - 8, by omega⟩
      have hg1 := hg.setH k
      have ho1 := ho.setH hg (.int .i64 k)
      have d1 := hg1.w1.cell
      have d2 := hg1.h1.cell
      have d4 := hg1.d1.cell
      have HG1 := hide hg1
      have HO1 := hide ho1
      have hp13 : wv' < 8192 := Nat.lt_of_lt_of_le hw' (Nat.pow_le_pow_right (n := 2) (j := 13) (by omega) hh')
      have HAND := hide (and_low k wv' (by omega) (by omega))
      have hmod : wv' % 2 ^ k < 2 ^ k := Nat.mod_lt _ (Nat.two_pow_pos k)
      have hq : wv' / 2 ^ k < 256 := by rw [Nat.div_lt_iff_lt_mul (Nat.two_pow_pos k)]; rw [Nat.pow_add] at hw'; omega
      have HMOD := hide hmod
      clear hg ho hg1 ho1 hmod
      go_wp2_with fail
      generalize wr.setCell ⟨bh, 0, none⟩ (.int .i64 k) = wx at *
      have k0 : (0 : Int) ≤ k := by omega
      have hpc : ((wv' : Int) / 2 ^ k) = ((UInt8.ofNat (wv' / 2 ^ k)).toNat : Int) := by
        rw [UInt8.toNat_ofNat', Nat.mod_eq_of_lt hq]
        simp
      have HPC := hide hpc
      clear hpc
      go_still_tail 4, (by kernel_rfl)
      change wpList _ _ _ _ _ wx.drew
      go_wp2_with fail
      rw [HPC.out]
      refine (decHand_any B bo acc' W0 wx.drew (UInt8.ofNat (wv' / 2 ^ k)) HO1.out.drew (by omega)).mono ?_
      rintro e w3 ⟨rfl, ho3, hk3⟩
      have hg3 := (HG1.out.drew).kept hk3
      have g1 := hg3.w1.cell
      have g2 := hg3.h1.cell
      have g3 := hg3.w1.free
      have HG4 := hide (hg3.setW (wv' % 2 ^ k))
      have HO4 := hide (ho3.setW hg3 (.int .u64 (wv' % 2 ^ k : Nat)))
      have hd4 : (w3.setCell ⟨bw, 0, none⟩ (.int .u64 (wv' % 2 ^ k : Nat))).cell? ⟨bh, 0, none⟩ = some (.int .i64 k) := HG4.out.h1.cell
      have HD4 := hide hd4
      clear hg3 ho3 hk3 d1 d2 d4 c1 c3 c4 f2 hd4
      have C2 := hide c2
      clear c2
      go_wp2_with fail
      have hand := HAND.out
      go_still_tail 5, (by kernel_rfl)
      change wpList _ _ _ _ _ w3.drew
      clear hand
      go_wp2_with fail
      go_roundw
      case rel => exact ⟨k, wv' % 2 ^ k, acc' ++ [UInt8.ofNat (wv' / 2 ^ k)], by rw [HR.out, runBits, dif_pos (by omega)]; simp, by simpa using HG4.out.drew, by simpa using HO4.out.drew, by omega, HMOD.out, by simp; omega⟩
      case measure =>
        have h1 := HD4.out
        have h2 := C2.out
        simp at h1
        simp [h1, h2, intOf]
        omega
    · have HG1 := hide hg
      have HO1 := hide ho
      clear hg ho
      go_wp2_with fail
      go_ret
      exact ⟨h', wv', acc', by rw [HR.out, runBits, dif_neg (by omega)], rfl, HG1.out, HO1.out⟩

set_option maxHeartbeats 2000000 in
theorem gatEnc (B bw bh bs bd bo : Nat) (b h wv n : Nat) (acc : List UInt8) (W0 w : World) (hhb : h + b ≤ 13) (hw : wv < 2 ^ h) (hn : n < 2 ^ b)
    (hg : Gat 6 114 B bw bh bs bd bo h wv w) (ho : Out B bo acc W0 w) (hl : acc.length ≤ 1048576) :
    Calls Tryz.prog 136 #[.int .u64 n, .int .i64 b, .pointer (some ⟨bw, 0, none⟩), .pointer (some ⟨bh, 0, none⟩), .pointer (some ⟨bs, 0, none⟩), .pointer (some ⟨bd, 0, none⟩)] w fun e w' =>
      ∃ h' wv' acc', runBits 6 letter (h + b) (wv * 2 ^ b + n) acc = (h', wv', acc') ∧ e = .returned (.int .i64 h') ∧ Gat 6 114 B bw bh bs bd bo h' wv' w' ∧ Out B bo acc' W0 w' := by
  have hm2 : wv * 2 ^ b + n < 2 ^ (h + b) := by
    rw [Nat.pow_add]
    have h1 : (wv + 1) * 2 ^ b ≤ 2 ^ h * 2 ^ b := Nat.mul_le_mul_right _ hw
    rw [Nat.add_mul] at h1
    omega
  have hm3 : 2 ^ (h + b) ≤ 8192 := Nat.pow_le_pow_right (n := 2) (i := h + b) (j := 13) (by omega) hhb
  have hor := or_low b wv n hn (by omega)
  have hwr := wrap_shl b wv (by omega)
  have hb0 : (0 : Int) ≤ b := by omega
  obtain ⟨m, hm⟩ : ∃ m, m = wv * 2 ^ b + n := ⟨_, rfl⟩
  rw [← hm] at hm2 hor ⊢
  have c1 := hg.w1.cell
  have f1 := hg.w1.free
  have hg1 := hg.setW m
  have ho1 := ho.setW hg (.int .u64 m)
  have c2 := hg1.h1.cell
  have f2 := hg1.h1.free
  have hg2 := hg1.setH (h + b)
  have ho2 := ho1.setH hg1 (.int .i64 (h + b : Nat))
  have HG := hide hg2
  have HO := hide ho2
  have HM := hide hm
  have HM2 := hide hm2
  clear hg ho hg1 ho1 hg2 ho2 hm hm2 hm3
  go_enter Tryz.func136, Tryz.ntmps136
  go_wp2_with fail
  go_loopw [17] (fun _ wr => ∃ (h' wv' : Nat) (acc' : List UInt8), runBits 6 letter (h + b) m acc = runBits 6 letter h' wv' acc' ∧ Gat 6 114 B bw bh bs bd bo h' wv' wr ∧ Out B bo acc' W0 wr ∧ h' ≤ 13 ∧ wv' < 2 ^ h' ∧ acc'.length + h' ≤ acc.length + h + b) (fun _ wr => (intOf ((wr.cell? ⟨bh, 0, none⟩).getD undef)).toNat)
  case atStart => exact ⟨h + b, m, acc, rfl, by simpa using HG.out, by simpa using HO.out, by omega, HM2.out, by omega⟩
  case round =>
    obtain ⟨h', wv', acc', hr, hg, ho, hh', hw', hl'⟩ := hrel
    have HR := hide hr
    clear hr
    have c1 := hg.w1.cell
    have c2 := hg.h1.cell
    have c3 := hg.s1.cell
    have c4 := hg.d1.cell
    have f2 := hg.h1.free
    by_cases h8 : 6 ≤ h'
    · obtain ⟨k, rfl⟩ : ∃ k, h' = k + 6 := ⟨h' - 6, by omega⟩
      have hg1 := hg.setH k
      have ho1 := ho.setH hg (.int .i64 k)
      have d1 := hg1.w1.cell
      have d2 := hg1.h1.cell
      have d4 := hg1.d1.cell
      have HG1 := hide hg1
      have HO1 := hide ho1
      have hp13 : wv' < 8192 := Nat.lt_of_lt_of_le hw' (Nat.pow_le_pow_right (n := 2) (j := 13) (by omega) hh')
      have HAND := hide (and_low k wv' (by omega) (by omega))
      have hmod : wv' % 2 ^ k < 2 ^ k := Nat.mod_lt _ (Nat.two_pow_pos k)
      have hq : wv' / 2 ^ k < 64 := by rw [Nat.div_lt_iff_lt_mul (Nat.two_pow_pos k)]; rw [Nat.pow_add] at hw'; omega
      have HMOD := hide hmod
      clear hg ho hg1 ho1 hmod
      go_wp2_with fail
      generalize wr.setCell ⟨bh, 0, none⟩ (.int .i64 k) = wx at *
      have k0 : (0 : Int) ≤ k := by omega
      have hpc : ((wv' : Int) / 2 ^ k) = ((wv' / 2 ^ k : Nat) : Int) := by simp
      have HPC := hide hpc
      clear hpc
      go_still_tail 4, (by kernel_rfl)
      change wpList _ _ _ _ _ wx.drew
      go_wp2_with fail
      rw [HPC.out]
      refine (encHand_any B bo acc' W0 wx.drew (wv' / 2 ^ k) hq HO1.out.drew (by omega)).mono ?_
      rintro e w3 ⟨rfl, ho3, hk3⟩
      have hg3 := (HG1.out.drew).kept hk3
      have g1 := hg3.w1.cell
      have g2 := hg3.h1.cell
      have g3 := hg3.w1.free
      have HG4 := hide (hg3.setW (wv' % 2 ^ k))
      have HO4 := hide (ho3.setW hg3 (.int .u64 (wv' % 2 ^ k : Nat)))
      have hd4 : (w3.setCell ⟨bw, 0, none⟩ (.int .u64 (wv' % 2 ^ k : Nat))).cell? ⟨bh, 0, none⟩ = some (.int .i64 k) := HG4.out.h1.cell
      have HD4 := hide hd4
      clear hg3 ho3 hk3 d1 d2 d4 c1 c3 c4 f2 hd4
      have C2 := hide c2
      clear c2
      go_wp2_with fail
      have hand := HAND.out
      go_still_tail 5, (by kernel_rfl)
      change wpList _ _ _ _ _ w3.drew
      clear hand
      go_wp2_with fail
      go_roundw
      case rel => exact ⟨k, wv' % 2 ^ k, acc' ++ [letter (wv' / 2 ^ k)], by rw [HR.out, runBits, dif_pos (by omega)]; simp, by simpa using HG4.out.drew, by simpa using HO4.out.drew, by omega, HMOD.out, by simp; omega⟩
      case measure =>
        have h1 := HD4.out
        have h2 := C2.out
        simp at h1
        simp [h1, h2, intOf]
        omega
    · have HG1 := hide hg
      have HO1 := hide ho
      clear hg ho
      go_wp2_with fail
      go_ret
      exact ⟨h', wv', acc', by rw [HR.out, runBits, dif_neg (by omega)], rfl, HG1.out, HO1.out⟩
end Go.Proofs.YtienjpelmbldpaaGreatDoor

/- WALKS of b64.gather and b64.Encode. No statement is proved here. -/
namespace Go.Proofs.YtienjpelmbldpaaGreatDoor
open Go.RowKit
set_option linter.unusedVariables false
set_option maxRecDepth 100000
set_option linter.unusedSimpArgs false

theorem makeFunc_run (fn : Fn) (first cap : Array Value) (w : World) : (Instr.makeFunc fn first cap).run Tryz.prog w = .ok (.func fn first cap) w := rfl

set_option maxHeartbeats 1000000 in
theorem gather_any (size : Nat) (hf : FuncId) (B bo : Nat) (acc : List UInt8) (W0 w : World) (ho : Out B bo acc W0 w) :
    Calls Tryz.prog 113 #[.int .i64 size, .func (.func hf) #[] #[.pointer (some ⟨bo, 0, none⟩)]] w fun e w' =>
      e = .returned (.func (.func 136) #[] #[.pointer (some ⟨w.heap.size + 2, 0, none⟩), .pointer (some ⟨w.heap.size + 3, 0, none⟩), .pointer (some ⟨w.heap.size, 0, none⟩), .pointer (some ⟨w.heap.size + 1, 0, none⟩)]) ∧
      Gat size hf B (w.heap.size + 2) (w.heap.size + 3) w.heap.size (w.heap.size + 1) bo 0 0 w' ∧ Out B bo acc W0 w' := by
  have hmf := makeFunc_run
  have hB : B ≤ w.heap.size := by obtain ⟨v, _, h, _⟩ := ho; exact h.2.2
  have hbo : bo < w.heap.size := by obtain ⟨v, h, _⟩ := ho; exact h.lt
  go_enter Tryz.func113, Tryz.ntmps113
  go_wp2_with fail
  go_ret
  refine ⟨rfl, ⟨?_, ?_, ?_, ?_, by omega, by omega, by omega, by omega, by omega, by omega, by omega⟩, (((ho.alloc _).alloc _).alloc _).alloc _⟩
  · have h := Box.new ((w.alloc (Obj.cells #[Value.int IntKind.i64 ↑size] 3)).alloc (Obj.cells #[Value.func (Fn.func hf) #[] #[Value.pointer (some ⟨bo, 0, none⟩)]] 107)) 96 (.int .u64 0)
    rw [show ((w.alloc (Obj.cells #[Value.int IntKind.i64 ↑size] 3)).alloc (Obj.cells #[Value.func (Fn.func hf) #[] #[Value.pointer (some ⟨bo, 0, none⟩)]] 107)).heap.size = w.heap.size + 2 by simp] at h
    exact h.alloc _
  · have h := Box.new (((w.alloc (Obj.cells #[Value.int IntKind.i64 ↑size] 3)).alloc (Obj.cells #[Value.func (Fn.func hf) #[] #[Value.pointer (some ⟨bo, 0, none⟩)]] 107)).alloc (Obj.cells #[Value.int IntKind.u64 0] 96)) 3 (.int .i64 0)
    rw [show (((w.alloc (Obj.cells #[Value.int IntKind.i64 ↑size] 3)).alloc (Obj.cells #[Value.func (Fn.func hf) #[] #[Value.pointer (some ⟨bo, 0, none⟩)]] 107)).alloc (Obj.cells #[Value.int IntKind.u64 0] 96)).heap.size = w.heap.size + 3 by simp] at h
    exact h
  · exact (((Box.new w 3 (.int .i64 size)).alloc _).alloc _).alloc _
  · have h := Box.new (w.alloc (Obj.cells #[Value.int IntKind.i64 ↑size] 3)) 107 (Value.func (Fn.func hf) #[] #[Value.pointer (some ⟨bo, 0, none⟩)])
    rw [show (w.alloc (Obj.cells #[Value.int IntKind.i64 ↑size] 3)).heap.size = w.heap.size + 1 by simp] at h
    exact (h.alloc _).alloc _

theorem gather_ex (size : Nat) (hf : FuncId) (B bo : Nat) (acc : List UInt8) (W0 w : World) (ho : Out B bo acc W0 w) :
    Calls Tryz.prog 113 #[.int .i64 size, .func (.func hf) #[] #[.pointer (some ⟨bo, 0, none⟩)]] w fun e w' => ∃ bw bh bs bd : Nat,
      e = .returned (.func (.func 136) #[] #[.pointer (some ⟨bw, 0, none⟩), .pointer (some ⟨bh, 0, none⟩), .pointer (some ⟨bs, 0, none⟩), .pointer (some ⟨bd, 0, none⟩)]) ∧
      Gat size hf B bw bh bs bd bo 0 0 w' ∧ Out B bo acc W0 w' :=
  (gather_any size hf B bo acc W0 w ho).mono fun _ _ h => ⟨_, _, _, _, h⟩

/-! ### what one byte brings, three times in turn -/
theorem run_stop (size : Nat) (f : Nat → UInt8) (h wv : Nat) (acc : List UInt8) (hs : h < size) : runBits size f h wv acc = (h, wv, acc) := by
  rw [runBits, dif_neg (by omega)]
theorem run_go (size : Nat) (f : Nat → UInt8) (k wv : Nat) (acc : List UInt8) (hs : 0 < size) : runBits size f (k + size) wv acc = runBits size f k (wv % 2 ^ k) (acc ++ [f (wv / 2 ^ k)]) := by
  rw [runBits, dif_pos (by omega), Nat.add_sub_cancel]
theorem enc0 (c : Nat) (acc : List UInt8) : runBits 6 letter (0 + 8) (0 * 2 ^ 8 + c) acc = (2, c % 4, acc ++ [letter (c / 4)]) := by
  rw [show 0 + 8 = 2 + 6 from rfl, run_go 6 letter 2 _ _ (by omega), run_stop _ _ _ _ _ (by omega)]
  simp
theorem enc2 (w c : Nat) (acc : List UInt8) : runBits 6 letter (2 + 8) (w * 2 ^ 8 + c) acc = (4, c % 16, acc ++ [letter (w * 16 + c / 16)]) := by
  rw [show 2 + 8 = 4 + 6 from rfl, run_go 6 letter 4 _ _ (by omega), run_stop _ _ _ _ _ (by omega)]
  have e1 : (w * 2 ^ 8 + c) % 2 ^ 4 = c % 16 := by omega
  have e2 : (w * 2 ^ 8 + c) / 2 ^ 4 = w * 16 + c / 16 := by omega
  rw [e1, e2]
theorem enc4 (w c : Nat) (acc : List UInt8) : runBits 6 letter (4 + 8) (w * 2 ^ 8 + c) acc = (0, 0, acc ++ [letter (w * 4 + c / 64), letter (c % 64)]) := by
  rw [show 4 + 8 = 6 + 6 from rfl, run_go 6 letter 6 _ _ (by omega), show runBits 6 letter 6 = runBits 6 letter (0 + 6) from rfl, run_go 6 letter 0 _ _ (by omega), run_stop _ _ _ _ _ (by omega)]
  have e1 : (w * 2 ^ 8 + c) % 2 ^ 6 = c % 64 := by omega
  have e2 : (w * 2 ^ 8 + c) / 2 ^ 6 = w * 4 + c / 64 := by omega
  rw [e1, e2]
  simp
  omega
theorem encEnd2 (w : Nat) (acc : List UInt8) : runBits 6 letter (2 + 4) (w * 2 ^ 4 + 0) acc = (0, 0, acc ++ [letter (w * 16)]) := by
  rw [show 2 + 4 = 0 + 6 from rfl, run_go 6 letter 0 _ _ (by omega), run_stop _ _ _ _ _ (by omega)]
  simp
  omega
theorem encEnd4 (w : Nat) (acc : List UInt8) : runBits 6 letter (4 + 2) (w * 2 ^ 2 + 0) acc = (0, 0, acc ++ [letter (w * 4)]) := by
  rw [show 4 + 2 = 0 + 6 from rfl, run_go 6 letter 0 _ _ (by omega), run_stop _ _ _ _ _ (by omega)]
  simp
  omega

/-- how many signs of the end fill up -/
def pads (n : Nat) : Nat := (4 - n % 4) % 4
/-- how long the slice in a box is -/
def lenAt (w : World) (b : Nat) : Nat := match w.cell? ⟨b, 0, none⟩ with
  | some (.slice _ n _) => n
  | _ => 0
theorem lenAt_box {w : World} {b n c : Nat} {A : Option Addr} (h : Box w b 50 (.slice A n c)) : lenAt w b = n := by unfold lenAt; rw [h.cell]

/-- the state of Encode: how many bits wait, what they are, how long the letters are -/
def EncSt (h wv : Nat) (acc : List UInt8) : Prop := (h = 0 ∧ wv = 0 ∧ acc.length % 4 = 0) ∨ (h = 2 ∧ wv < 4 ∧ acc.length % 4 = 1) ∨ (h = 4 ∧ wv < 16 ∧ acc.length % 4 = 2)
theorem EncSt.lt {h wv : Nat} {acc : List UInt8} (s : EncSt h wv acc) : wv < 2 ^ h ∧ h ≤ 4 := by
  rcases s with ⟨rfl, rfl, _⟩ | ⟨rfl, h1, _⟩ | ⟨rfl, h1, _⟩
  · exact ⟨by decide, by omega⟩
  · exact ⟨h1, by omega⟩
  · exact ⟨h1, by omega⟩
theorem EncSt.step {h wv h' wv' : Nat} {acc acc' r R : List UInt8} {c : UInt8} (s : EncSt h wv acc) (hr : runBits 6 letter (h + 8) (wv * 2 ^ 8 + c.toNat) acc = (h', wv', acc')) (hR : acc ++ encFrom h wv (c :: r) = R) :
    EncSt h' wv' acc' ∧ acc' ++ encFrom h' wv' r = R ∧ acc'.length ≤ acc.length + 2 := by
  have hc := byte_lt c
  rcases s with ⟨rfl, rfl, hl⟩ | ⟨rfl, hw, hl⟩ | ⟨rfl, hw, hl⟩
  · rw [enc0] at hr
    injection hr with h1 hr; injection hr with h2 h3
    subst h1; subst h2; subst h3; subst hR
    exact ⟨.inr (.inl ⟨rfl, by omega, by simp; omega⟩), by simp [encFrom], by simp⟩
  · rw [enc2] at hr
    injection hr with h1 hr; injection hr with h2 h3
    subst h1; subst h2; subst h3; subst hR
    exact ⟨.inr (.inr ⟨rfl, by omega, by simp; omega⟩), by simp [encFrom], by simp⟩
  · rw [enc4] at hr
    injection hr with h1 hr; injection hr with h2 h3
    subst h1; subst h2; subst h3; subst hR
    exact ⟨.inl ⟨rfl, rfl, by simp; omega⟩, by simp [encFrom], by simp⟩

set_option maxHeartbeats 2000000 in
theorem encode64_any (s : ByteArray) (w : World) (hs : s.size ≤ 100000) :
    Calls Tryz.prog 85 #[.string s] w fun e w' => e = .returned (.string (str (encB s.data.toList))) ∧ Below w.heap.size w w' := by
  have hmf := makeFunc_run
  have hc8 : (0 : Int) ≤ s.size := by omega
  go_enter Tryz.func85, Tryz.ntmps85
  go_wp2_with (refine wpList_buf_make rfl _ _ rfl w.heap.size w (Below.refl _ _) (Nat.le_refl _) ((s.size + 2) / 3 * 4) (((s.size : Int) + 2) / 3 * 4) rfl rfl (by omega) (by omega) ?_; intro v0 w0 hb0; obtain ⟨A0, c0, rfl⟩ := hb0.slice_len; have HB0 := hide hb0; clear hb0)
  have ho0 : Out w.heap.size w0.heap.size [] w (w0.alloc (Obj.cells #[Value.slice A0 0 c0] 50)) := ⟨_, Box.new w0 _ _, HB0.out.alloc _, HB0.out.2.2⟩
  refine (gather_ex 6 114 w.heap.size w0.heap.size [] w _ ho0).mono ?_
  rintro e w1 ⟨bw, bh, bs, bd, rfl, hg, ho⟩
  clear ho0
  have HG := hide hg
  have HO := hide ho
  clear hg ho
  generalize w0.heap.size = bo at *
  go_wp2_with fail
  go_loopw [5, 17] (fun n i wr => ∃ (k h wv : Nat) (acc : List UInt8), k ≤ s.size ∧ i = .int .i64 k ∧ n = .int .i64 h ∧ Gat 6 114 w.heap.size bw bh bs bd bo h wv wr ∧ Out w.heap.size bo acc w wr ∧ EncSt h wv acc ∧ acc ++ encFrom h wv (s.data.toList.drop k) = encB s.data.toList ∧ acc.length ≤ 2 * k) (fun _ i _ => s.size - (intOf i).toNat)
  case atStart => exact ⟨0, 0, 0, [], Nat.zero_le _, rfl, rfl, HG.out, HO.out, .inl ⟨rfl, rfl, rfl⟩, by simp [encB], Nat.le_refl _⟩
  case round =>
    obtain ⟨k, h, wv, acc, hk, rfl, rfl, hg, ho, hst, hR, hl⟩ := hrel
    have HG1 := hide hg
    have HO1 := hide ho
    have HS := hide hst
    have HR := hide hR
    clear hg ho hst hR
    by_cases hlt : k < s.size
    · have HD := hide (drop_cons s k hlt)
      obtain ⟨c, hc⟩ : ∃ c, c = s[k] := ⟨_, rfl⟩
      have HC := hide hc
      have hcb := byte_lt s[k]
      clear hc
      go_wp2_with fail
      refine (gatEnc w.heap.size bw bh bs bd bo 8 h wv s[k].toNat acc w _ (by have := HS.out.lt.2; omega) HS.out.lt.1 hcb HG1.out HO1.out (by omega)).mono ?_
      rintro e w2 ⟨h', wv', acc', hr, rfl, hg2, ho2⟩
      have hstep := EncSt.step (r := s.data.toList.drop (k + 1)) (R := encB s.data.toList) HS.out hr (by rw [← HD.out]; exact HR.out)
      obtain ⟨s1, s2, s3⟩ := hstep
      have HG2 := hide hg2
      have HO2 := hide ho2
      have HS1 := hide s1
      have HS2 := hide s2
      clear hr hg2 ho2 s1 s2
      go_wp2_with fail
      go_roundw
      case rel => exact ⟨k + 1, h', wv', acc', by omega, by go_num, rfl, HG2.out, HO2.out, HS1.out, HS2.out, by omega⟩
      case measure => simp [intOf]; omega
    · have hend : ∃ h2 : s.data.toList.drop k = [], True := ⟨drop_nil s k (by omega), trivial⟩
      obtain ⟨hdn, -⟩ := hend
      have hR := HR.out
      rw [hdn] at hR
      have HR2 := hide hR
      clear hdn hR
      rcases HS.out with ⟨rfl, rfl, h3⟩ | ⟨rfl, h2, h3⟩ | ⟨rfl, h2, h3⟩
      all_goals first
        | (have g0 : acc.length % 4 = 0 := h3
           rw [show (((0 : Nat)) : Int) = 0 from rfl]
           have hfin : acc ++ List.replicate (pads acc.length) 61 = encB s.data.toList := by
             have := HR2.out
             rw [show encFrom 0 0 [] = [] from rfl] at this
             rw [← this, pads, h3]
             rfl
           have HF := hide hfin
           have HO4 := HO1
           have hl4 : acc.length ≤ 500000 := by omega
           obtain ⟨l4, hl5⟩ : ∃ l, l = acc := ⟨_, rfl⟩
           rw [← hl5] at HF HO4 hl4
           clear hfin hl5
           go_wp2_with fail)
        | (have g0 : acc.length % 4 = 1 := h3
           rw [show (((2 : Nat)) : Int) = 2 from rfl]
           go_wp2_with fail
           refine (gatEnc w.heap.size bw bh bs bd bo 4 2 wv 0 acc w _ (by omega) h2 (by decide) HG1.out HO1.out (by omega)).mono ?_
           rintro e w2 ⟨h', wv', acc', hr, rfl, hg2, ho2⟩
           rw [encEnd2] at hr
           injection hr with e1 hr
           injection hr with e2 e3
           have hfin : acc' ++ List.replicate (pads acc'.length) 61 = encB s.data.toList := by
             have := HR2.out
             rw [show encFrom 2 wv [] = [letter (wv * 16), 61, 61] from rfl] at this
             have hlen : acc'.length = acc.length + 1 := by rw [← e3]; simp
             have hp : pads acc'.length = 2 := by rw [hlen, pads]; omega
             rw [hp, ← this, ← e3]; simp [List.replicate_succ]
           have HF : Hid (acc' ++ List.replicate (pads acc'.length) 61 = encB s.data.toList) := hfin
           have HO4 : Hid (Out w.heap.size bo acc' w w2) := ho2
           have hl4 : acc'.length ≤ 500000 := by rw [← e3]; simp; omega
           obtain ⟨l4, hl5⟩ : ∃ l, l = acc' := ⟨_, rfl⟩
           rw [← hl5] at HF HO4 hl4
           clear hfin e1 e2 e3 ho2 hg2 hl5
           go_wp2_with fail)
        | (have g0 : acc.length % 4 = 2 := h3
           rw [show (((4 : Nat)) : Int) = 4 from rfl]
           go_wp2_with fail
           refine (gatEnc w.heap.size bw bh bs bd bo 2 4 wv 0 acc w _ (by omega) h2 (by decide) HG1.out HO1.out (by omega)).mono ?_
           rintro e w2 ⟨h', wv', acc', hr, rfl, hg2, ho2⟩
           rw [encEnd4] at hr
           injection hr with e1 hr
           injection hr with e2 e3
           have hfin : acc' ++ List.replicate (pads acc'.length) 61 = encB s.data.toList := by
             have := HR2.out
             rw [show encFrom 4 wv [] = [letter (wv * 4), 61] from rfl] at this
             have hlen : acc'.length = acc.length + 1 := by rw [← e3]; simp
             have hp : pads acc'.length = 1 := by rw [hlen, pads]; omega
             rw [hp, ← this, ← e3]; simp [List.replicate_succ]
           have HF : Hid (acc' ++ List.replicate (pads acc'.length) 61 = encB s.data.toList) := hfin
           have HO4 : Hid (Out w.heap.size bo acc' w w2) := ho2
           have hl4 : acc'.length ≤ 500000 := by rw [← e3]; simp; omega
           obtain ⟨l4, hl5⟩ : ∃ l, l = acc' := ⟨_, rfl⟩
           rw [← hl5] at HF HO4 hl4
           clear hfin e1 e2 e3 ho2 hg2 hl5
           go_wp2_with fail)
      all_goals
        go_loopw [37] (fun _ wr => ∃ l : List UInt8, Out w.heap.size bo l w wr ∧ l ++ List.replicate (pads l.length) 61 = encB s.data.toList ∧ l.length ≤ l4.length + 4 - pads l.length) (fun _ wr => pads (lenAt wr bo))
        case atStart => exact ⟨l4, HO4.out, HF.out, (by unfold pads; omega)⟩
        case round =>
          obtain ⟨l, ⟨v, hbx, hbf, hB⟩, hfin, hll⟩ := hrel
          obtain ⟨A, cc, rfl⟩ := hbf.slice_len
          have HBX := hide hbx
          have HBF := hide hbf
          have HFI := hide hfin
          have c1 := hbx.cell
          have f1 := hbx.free
          have hla := lenAt_box hbx
          have HLA := hide hla
          clear hbx hbf hfin hla
          by_cases h0 : l.length % 4 = 0
          · have t : (((l.length : Int) % 4) != 0) = false := by simp; omega
            have H0 := hide h0
            have hcv := HBF.out.convert
            clear h0
            go_wp2_with fail
            go_ret
            refine ⟨ret_str ?_, HBF.out.below⟩
            have := HFI.out
            rw [show pads l.length = 0 by unfold pads; rw [H0.out]] at this
            simp at this
            rw [this]
          · have t : (((l.length : Int) % 4) != 0) = true := by simp; omega
            have H0 := hide h0
            clear h0
            go_wp2_with (refine wpList_buf_const rfl _ _ rfl w.heap.size (.slice A l.length cc) l rfl w _ 61 61 rfl HBF.out rfl (by omega) ?_; intro v2 w2 hb2 hk2; obtain ⟨A2, c2, rfl⟩ := hb2.slice_len; have hx2 := hk2 _ _ _ (by decide) HBX.out; have d2 := hx2.cell; have g2 := hx2.free; have HB2 := hide hb2; have HX2 := hide hx2; clear hb2 hx2 hk2)
            go_roundw
            case rel => 
              have hp : pads l.length = pads (l.length + 1) + 1 := by have := H0.out; unfold pads; omega
              have hp3 : pads (l.length + 1) ≤ 3 := by unfold pads; omega
              have hB2 := HB2.out
              rw [show (l ++ [(61 : UInt8)]).length = l.length + 1 by simp] at hB2
              refine ⟨l ++ [61], ⟨_, HX2.out.set _, hB2.setBox HX2.out (by decide) hB _, hB⟩, ?_, ?_⟩
              · rw [← HFI.out, List.length_append, hp, List.replicate_succ]; simp
              · simp; omega
            case measure =>
              have hp : pads l.length = pads (l.length + 1) + 1 := by have := H0.out; unfold pads; omega
              have e1 := HLA.out
              have e2 := lenAt_box (HX2.out.set (.slice A2 (l ++ [61]).length c2))
              simp at e2 ⊢
              rw [e1, e2]
              omega
end Go.Proofs.YtienjpelmbldpaaGreatDoor

/- WALKS of b64.number, the reference's place and bit. No statement is proved here. -/
namespace Go.Proofs.YtienjpelmbldpaaGreatDoor
open Go.RowKit
set_option linter.unusedVariables false
set_option linter.unusedSimpArgs false

/-- what 'number' answers -/
def numV (n : Nat) : Value := .tuple #[.int .u64 (if n < 64 then n else 0 : Nat), .bool (decide (n < 64))]
theorem numV_yes {n : Nat} (h : n < 64) : numV n = .tuple #[.int .u64 n, .bool true] := by simp [numV, h]
theorem numV_no {n : Nat} (h : ¬ n < 64) : numV n = .tuple #[.int .u64 0, .bool false] := by simp [numV, h]
theorem ret_num {a : Int} {b : Bool} {n : Nat} (h : n < 64 ∧ a = n ∧ b = true ∨ ¬ n < 64 ∧ a = 0 ∧ b = false) : Ending.returned (.tuple #[.int .u64 a, .bool b]) = .returned (numV n) := by
  rcases h with ⟨h, rfl, rfl⟩ | ⟨h, rfl, rfl⟩
  · rw [numV_yes h]
  · rw [numV_no h]

set_option maxHeartbeats 2000000 in
theorem number64_any (c : UInt8) (w : World) :
    Calls Tryz.prog 173 #[.int .u8 c.toNat] w fun e w' => e = .returned (numV (val c)) ∧ w = w' := by
  have hc := byte_lt c
  have hv := val_ranges c
  generalize val c = v at hv
  have hcase : (65 ≤ c.toNat ∧ c.toNat ≤ 90) ∨ (97 ≤ c.toNat ∧ c.toNat ≤ 122) ∨ (48 ≤ c.toNat ∧ c.toNat ≤ 57) ∨ c.toNat = 43 ∨ c.toNat = 47 ∨
      (c.toNat < 43) ∨ (43 < c.toNat ∧ c.toNat < 47) ∨ (57 < c.toNat ∧ c.toNat < 65) ∨ (90 < c.toNat ∧ c.toNat < 97) ∨ 122 < c.toNat := by omega
  have HV := hide hv
  clear hv
  rcases hcase with ⟨h1, h2⟩ | ⟨h1, h2⟩ | ⟨h1, h2⟩ | h1 | h1 | h1 | ⟨h1, h2⟩ | ⟨h1, h2⟩ | ⟨h1, h2⟩ | h1
  · go_enter Tryz.func173, Tryz.ntmps173
    go_wp2
    go_ret2
    refine ⟨ret_num (.inl ?_), rfl⟩
    have hv := HV.out
    rw [if_pos ⟨h1, h2⟩] at hv
    exact ⟨by omega, by omega, rfl⟩
  · go_enter Tryz.func173, Tryz.ntmps173
    go_wp2
    go_ret2
    refine ⟨ret_num (.inl ?_), rfl⟩
    have hv := HV.out
    rw [if_neg (by omega), if_pos ⟨h1, h2⟩] at hv
    exact ⟨by omega, by omega, rfl⟩
  · go_enter Tryz.func173, Tryz.ntmps173
    go_wp2
    go_ret2
    refine ⟨ret_num (.inl ?_), rfl⟩
    have hv := HV.out
    rw [if_neg (by omega), if_neg (by omega), if_pos ⟨h1, h2⟩] at hv
    exact ⟨by omega, by omega, rfl⟩
  · have t1 : ((c.toNat : Int) == 43) = true := by rw [beq_iff_eq]; omega
    have H1 := hide h1
    have h2 : c.toNat < 48 := by omega
    clear h1
    go_enter Tryz.func173, Tryz.ntmps173
    go_wp2
    go_ret2
    refine ⟨ret_num (.inl ?_), rfl⟩
    have hv := HV.out
    have h1 := H1.out
    rw [if_neg (by omega), if_neg (by omega), if_neg (by omega), if_pos h1] at hv
    exact ⟨by omega, by omega, rfl⟩
  · have t1 : ((c.toNat : Int) == 43) = false := by rw [beq_eq_false_iff_ne]; omega
    have t2 : ((c.toNat : Int) == 47) = true := by rw [beq_iff_eq]; omega
    have H1 := hide h1
    have h2 : c.toNat < 48 := by omega
    clear h1
    go_enter Tryz.func173, Tryz.ntmps173
    go_wp2
    go_ret2
    refine ⟨ret_num (.inl ?_), rfl⟩
    have hv := HV.out
    have h1 := H1.out
    rw [if_neg (by omega), if_neg (by omega), if_neg (by omega), if_neg (by omega), if_pos h1] at hv
    exact ⟨by omega, by omega, rfl⟩
  all_goals
    have t1 : ((c.toNat : Int) == 43) = false := by rw [beq_eq_false_iff_ne]; omega
    have t2 : ((c.toNat : Int) == 47) = false := by rw [beq_eq_false_iff_ne]; omega
    go_enter Tryz.func173, Tryz.ntmps173
    go_wp2
    go_ret2
    refine ⟨ret_num (.inr ?_), rfl⟩
    have hv := HV.out
    rw [if_neg (by omega), if_neg (by omega), if_neg (by omega), if_neg (by omega), if_neg (by omega)] at hv
    exact ⟨by omega, by omega, rfl⟩

/-- what the reference's place answers -/
def placeI (c : UInt8) : Int := if val c < 64 then val c else -1
theorem idx64_eq {x : UInt8} {l r : List UInt8} (h : l = x :: r) : l.idxOf x = 0 := by
  subst h; simp
theorem idx64_ne {d x : UInt8} {l r : List UInt8} (h : l = x :: r) (e : x ≠ d) : l.idxOf d = r.idxOf d + 1 := by
  subst h
  rw [List.idxOf_cons]
  have : (x == d) = false := by simp [e]
  rw [this]; rfl

set_option maxHeartbeats 1000000 in
theorem place_any (c : UInt8) (w : World) :
    Calls Tryz.prog 134 #[.int .u8 c.toNat] w fun e w' => e = .returned (.int .i64 (placeI c)) ∧ w = w' := by
  have hc := byte_lt c
  obtain ⟨L, hL⟩ : ∃ L : ByteArray, L = ⟨#[65, 66, 67, 68, 69, 70, 71, 72, 73, 74, 75, 76, 77, 78, 79, 80, 81, 82, 83, 84, 85, 86, 87, 88, 89, 90, 97, 98, 99, 100, 101, 102, 103, 104, 105, 106, 107, 108, 109, 110, 111, 112, 113, 114, 115, 116, 117, 118, 119, 120, 121, 122, 48, 49, 50, 51, 52, 53, 54, 55, 56, 57, 43, 47]⟩ := ⟨_, rfl⟩
  have hz : L.size = 64 := by rw [hL]; rfl
  have hd : letters64 = L.data.toList := by rw [hL]; rfl
  have HL := hide hL
  have HD := hide hd
  clear hL hd
  go_enter Tryz.func134, Tryz.ntmps134
  go_wp2
  go_loop [3] (fun i => ∃ k : Nat, k ≤ 64 ∧ i = .int .i64 k ∧ val c = k + (letters64.drop k).idxOf c) (fun i => 64 - (intOf i).toNat)
  case atStart => exact ⟨0, by omega, rfl, by simp [val]⟩
  case round =>
    obtain ⟨k, hk, rfl, hi⟩ := hrel
    have HI := hide hi
    clear hi
    by_cases hlt : k < 64
    · have hkz : k < L.size := by omega
      have HX := hide (drop_cons L k hkz)
      obtain ⟨x, hx⟩ : ∃ x, x = L[k] := ⟨_, rfl⟩
      have HX2 := hide hx
      have hidx : ∀ h, (⟨#[65, 66, 67, 68, 69, 70, 71, 72, 73, 74, 75, 76, 77, 78, 79, 80, 81, 82, 83, 84, 85, 86, 87, 88, 89, 90, 97, 98, 99, 100, 101, 102, 103, 104, 105, 106, 107, 108, 109, 110, 111, 112, 113, 114, 115, 116, 117, 118, 119, 120, 121, 122, 48, 49, 50, 51, 52, 53, 54, 55, 56, 57, 43, 47]⟩ : ByteArray)[k]'h = x := by
        intro h
        have h1 := HL.out
        subst h1
        exact hx.symm
      rw [← HX2.out] at HX
      clear hx
      by_cases he : x = c
      · have t : ((x.toNat : Int) == c.toNat) = true := by rw [he]; simp
        have HE := hide he
        clear he
        go_wp2
        go_ret
        refine ⟨ret_int ?_, rfl⟩
        have h1 := HI.out
        rw [HD.out] at h1
        rw [idx64_eq (x := c) (by rw [HX.out, HE.out])] at h1
        unfold placeI
        rw [h1, if_pos (by omega)]
        rfl
      · have t : ((x.toNat : Int) == c.toNat) = false := by
          rw [beq_eq_false_iff_ne]; intro e; exact he (UInt8.toNat_inj.1 (by omega))
        have HE := hide he
        clear he
        go_wp2
        go_round
        case rel =>
          refine ⟨k + 1, by omega, by go_num, ?_⟩
          have h1 := HI.out
          rw [HD.out] at h1 ⊢
          rw [idx64_ne HX.out HE.out] at h1
          omega
        case measure => simp [intOf]; omega
    · go_wp2
      go_ret
      refine ⟨ret_int ?_, rfl⟩
      have h1 := HI.out
      unfold placeI
      rw [if_neg (by omega)]
end Go.Proofs.YtienjpelmbldpaaGreatDoor

/- WALKS of strings.Cut at the sign of the end, and of b64.Decode. No statement is proved here. -/
namespace Go.Proofs.YtienjpelmbldpaaGreatDoor
open Go.RowKit
set_option linter.unusedVariables false
set_option maxRecDepth 100000
set_option linter.unusedSimpArgs false

theorem index61 (l : List UInt8) : (Lib.indexByte l 61 = -1 ∧ ahead l = l) ∨ ∃ o : Nat, Lib.indexByte l 61 = o ∧ o < l.length ∧ l.take o = ahead l := by
  induction l with
  | nil => exact .inl ⟨rfl, rfl⟩
  | cons c r ih =>
    by_cases h : c = 61
    · subst h
      exact .inr ⟨0, by simp [Lib.indexByte], by simp, by simp [ahead]⟩
    · have h1 : (c == 61) = false := by simp [h]
      have h2 : (c != 61) = true := by simp [h]
      have ea : ahead (c :: r) = c :: ahead r := by simp [ahead, h]
      rcases ih with ⟨i1, i2⟩ | ⟨o, i1, i2, i3⟩
      · refine .inl ⟨?_, by rw [ea, i2]⟩
        simp [Lib.indexByte, h1, i1]
      · refine .inr ⟨o + 1, ?_, by simp; omega, by rw [ea, ← i3]; rfl⟩
        have hne : ((o : Int) == -1) = false := by rw [beq_eq_false_iff_ne]; omega
        simp [Lib.indexByte, h1, i1, hne]

theorem ret_cut61 {a b x : ByteArray} {c : Bool} (h : a = b) : Ending.returned (.tuple #[.string a, .string x, .bool c]) = .returned (.tuple #[.string b, .string x, .bool c]) := by rw [h]
set_option maxHeartbeats 1000000 in
theorem cut61_any (s : ByteArray) (w : World) (hs : s.size ≤ 1048576) :
    Calls Tryz.prog 61 #[.string s, .string ⟨#[61]⟩] w fun e w' => ∃ x b, e = .returned (.tuple #[.string (str (ahead s.data.toList)), .string x, .bool b]) ∧ Below w.heap.size w w' := by
  have hz : (⟨#[61]⟩ : ByteArray).size = 1 := rfl
  rcases index61 s.data.toList with ⟨i1, i2⟩ | ⟨o, i1, i2, i3⟩
  · have I1 := hide i1
    have I2 := hide i2
    clear i1 i2
    go_enter Tryz.func61, Tryz.ntmps61
    go_wp2_with fail
    refine (Tryz.stringslite_Index_one s 61 _).mono ?_
    rintro e w1 ⟨rfl, hw⟩
    subst hw
    rw [I1.out]
    go_wp2_with fail
    go_ret3
    exact ⟨_, _, ret_cut61 (by rw [I2.out, str_of]), Below.refl _ _⟩
  · have I1 := hide i1
    have I3 := hide i3
    rw [toList_length] at i2
    have o1 : (o : Int) + 1 ≤ s.size := by omega
    have o0 : (0 : Int) ≤ o := by omega
    have o2 : (o : Int) ≤ s.size := by omega
    have o3 : (0 : Int) ≤ (o : Int) + 1 := by omega
    clear i1 i3
    go_enter Tryz.func61, Tryz.ntmps61
    go_wp2_with fail
    refine (Tryz.stringslite_Index_one s 61 _).mono ?_
    rintro e w1 ⟨rfl, hw⟩
    subst hw
    rw [I1.out]
    go_wp2_with fail
    go_region
    all_goals (try go_wp2)
    all_goals
      go_ret3
      exact ⟨_, _, ret_cut61 (ext_list (by rw [extract_list, List.drop_zero, str_toList, I3.out])), (Below.refl _ _).drew⟩

set_option maxHeartbeats 1000000 in
theorem strCut61_any (s : ByteArray) (w : World) (hs : s.size ≤ 1048576) :
    Calls Tryz.prog 41 #[.string s, .string ⟨#[61]⟩] w fun e w' => ∃ x b, e = .returned (.tuple #[.string (str (ahead s.data.toList)), .string x, .bool b]) ∧ Below w.heap.size w w' := by
  go_enter Tryz.func41, Tryz.ntmps41
  go_wp2_with fail
  refine (cut61_any s _ hs).mono ?_
  rintro e w1 ⟨x, b, rfl, hb⟩
  go_wp2_with fail
  go_ret3
  exact ⟨_, _, rfl, hb⟩

theorem runDec (h w n : Nat) (acc : List UInt8) (hh : h < 8) : runBits 8 UInt8.ofNat (h + 6) (w * 2 ^ 6 + n) acc =
    if h + 6 < 8 then (h + 6, w * 64 + n, acc) else (h - 2, (w * 64 + n) % 2 ^ (h - 2), acc ++ [UInt8.ofNat ((w * 64 + n) / 2 ^ (h - 2))]) := by
  by_cases h2 : h + 6 < 8
  · rw [if_pos h2, run_stop _ _ _ _ _ h2]
  · rw [if_neg h2]
    obtain ⟨k, rfl⟩ : ∃ k, h = k + 2 := ⟨h - 2, by omega⟩
    rw [show k + 2 + 6 = k + 8 from rfl, run_go 8 UInt8.ofNat k _ _ (by omega), run_stop _ _ _ _ _ (by omega), Nat.add_sub_cancel]

theorem ahead_length (l : List UInt8) : (ahead l).length ≤ l.length := (List.takeWhile_sublist _).length_le

set_option maxRecDepth 100000 in
set_option maxHeartbeats 2000000 in
theorem decode64_any (s : ByteArray) (w : World) (hs : s.size ≤ 1048576) :
    Calls Tryz.prog 160 #[.string s] w fun e w' => e = .returned (.string (str (decB s.data.toList))) ∧ Below w.heap.size w w' := by
  have hmf := makeFunc_run
  have hal := ahead_length s.data.toList
  rw [toList_length] at hal
  obtain ⟨bd, hbd⟩ : ∃ b : ByteArray, b = str (ahead s.data.toList) := ⟨_, rfl⟩
  have hbz : bd.size ≤ s.size := by rw [hbd, str_size]; exact hal
  have hbt : bd.data.toList = ahead s.data.toList := by rw [hbd, str_toList]
  have HBD := hide hbd
  have HBT := hide hbt
  clear hbd hbt hal
  have hc0 : (0 : Int) ≤ bd.size := by omega
  go_enter Tryz.func160, Tryz.ntmps160
  go_wp2_with fail
  refine (strCut61_any s _ hs).mono ?_
  rintro e w0 ⟨x, b, rfl, hb0⟩
  rw [← HBD.out]
  have HB0 := hide hb0
  have hsz0 := hb0.size
  clear hb0
  go_wp2_with (refine wpList_buf_make rfl _ _ rfl w.heap.size w HB0.out hsz0 (bd.size / 4 * 3 + 2) (((bd.size : Int)) / 4 * 3 + 2) rfl rfl (by omega) (by omega) ?_; intro v0 w1 hb1; obtain ⟨A0, c0, rfl⟩ := hb1.slice_len; have HB1 := hide hb1; clear hb1)
  have ho0 : Out w.heap.size w1.heap.size [] w (w1.alloc (Obj.cells #[Value.slice A0 0 c0] 50)) := ⟨_, Box.new w1 _ _, HB1.out.alloc _, HB1.out.2.2⟩
  refine (gather_ex 8 172 w.heap.size w1.heap.size [] w _ ho0).mono ?_
  rintro e w2 ⟨bw, bh, bs, bdd, rfl, hg, ho⟩
  clear ho0
  have HG := hide hg
  have HO := hide ho
  clear hg ho
  generalize w1.heap.size = bo at *
  go_wp2_with fail
  go_loopw [27] (fun i wr => ∃ (k h wv : Nat) (acc : List UInt8), k ≤ bd.size ∧ i = .int .i64 k ∧ Gat 8 172 w.heap.size bw bh bs bdd bo h wv wr ∧ Out w.heap.size bo acc w wr ∧ h < 8 ∧ wv < 2 ^ h ∧ acc ++ decFrom h wv (bd.data.toList.drop k) = decB s.data.toList ∧ acc.length ≤ k) (fun i _ => bd.size - (intOf i).toNat)
  case atStart => exact ⟨0, 0, 0, [], Nat.zero_le _, rfl, HG.out, HO.out, by omega, by decide, by rw [HBT.out]; rfl, Nat.le_refl _⟩
  case round =>
    obtain ⟨k, h, wv, acc, hk, rfl, hg, ho, hh, hw, hR, hl⟩ := hrel
    have HG1 := hide hg
    have HO1 := hide ho
    have HR := hide hR
    have HW := hide hw
    clear hg ho hR hw
    by_cases hlt : k < bd.size
    · have HD := hide (drop_cons bd k hlt)
      have hR := HR.out
      rw [HD.out, decFrom] at hR
      by_cases hv : val bd[k] < 64
      · have HV := hide (numV_yes hv)
        rw [if_neg (by omega)] at hR
        have HR1 := hide hR
        clear hR
        go_wp2_with fail
        refine (number64_any _ _).mono ?_
        rintro e w3 ⟨rfl, rfl⟩
        rw [HV.out]
        go_wp2_with fail
        refine (gatDec w.heap.size bw bh bs bdd bo 6 h wv (val bd[k]) acc w _ (by omega) HW.out hv HG1.out HO1.out (by omega)).mono ?_
        rintro e w4 ⟨h', wv', acc', hr, rfl, hg2, ho2⟩
        rw [runDec _ _ _ _ hh] at hr
        have hst : h' < 8 ∧ wv' < 2 ^ h' ∧ acc' ++ decFrom h' wv' (bd.data.toList.drop (k + 1)) = decB s.data.toList ∧ acc'.length ≤ k + 1 := by
          have hw := HW.out
          by_cases h2 : h + 6 < 8
          · have hR := HR1.out
            rw [if_pos h2] at hr hR
            injection hr with e1 hr
            injection hr with e2 e3
            subst e1; subst e2; subst e3
            refine ⟨h2, ?_, hR, by omega⟩
            rw [Nat.pow_add]; omega
          · have hR := HR1.out
            rw [if_neg h2] at hr hR
            injection hr with e1 hr
            injection hr with e2 e3
            subst e1; subst e2; subst e3
            refine ⟨by omega, Nat.mod_lt _ (Nat.two_pow_pos _), ?_, by simp; omega⟩
            rw [← hR]; simp
        obtain ⟨s1, s2, s3, s4⟩ := hst
        have HG2 := hide hg2
        have HO2 := hide ho2
        have HS2 := hide s2
        have HS3 := hide s3
        clear hr hg2 ho2 s2 s3
        go_wp2_with fail
        go_roundw
        case rel => exact ⟨k + 1, h', wv', acc', by omega, by go_num, HG2.out, HO2.out, s1, HS2.out, HS3.out, by omega⟩
        case measure => simp [intOf]; omega
      · have HV := hide (numV_no hv)
        have hvl := val_le bd[k]
        rw [if_pos (by omega)] at hR
        have HR1 := hide hR
        clear hR
        go_wp2_with fail
        refine (number64_any _ _).mono ?_
        rintro e w3 ⟨rfl, rfl⟩
        rw [HV.out]
        go_wp2_with fail
        go_roundw
        case rel => exact ⟨k + 1, h, wv, acc, by omega, by go_num, HG1.out, HO1.out, hh, HW.out, HR1.out, by omega⟩
        case measure => simp [intOf]; omega
    · obtain ⟨v, hbx, hbf, hB⟩ := HO1.out
      have c1 := hbx.cell
      have hcv := hbf.convert
      have HBF := hide hbf
      clear hbx hbf
      go_wp2_with fail
      go_ret
      refine ⟨ret_str ?_, HBF.out.below⟩
      have h1 := HR.out
      rw [drop_nil bd k (by omega), decFrom, List.append_nil] at h1
      rw [h1]
end Go.Proofs.YtienjpelmbldpaaGreatDoor

/- strings.Trim of white. No statement is proved here. -/
namespace Go.Proofs.YtienjpelmbldpaaGreatDoor
open Go.RowKit
set_option linter.unusedVariables false
set_option linter.unusedSimpArgs false

theorem trim_any (s : ByteArray) (w : World) (hs : s.size ≤ maxLen) :
    Calls Tryz.prog 45 #[.string s, .string ⟨#[32, 9, 10, 12, 13]⟩] w fun e w' => e = .returned (.string (str (Lib.trimS s.data.toList whiteSet))) ∧ Below w.heap.size w w' :=
  Any.strings_Trim_laid Tryz.lays160 (by kernel_rfl) s ⟨#[32, 9, 10, 12, 13]⟩ w (by unfold maxLen at hs; omega) (by decide) (ascii_of_all (by decide))
end Go.Proofs.YtienjpelmbldpaaGreatDoor

/- utf8.AppendRune onto a row that the call owns, beside a text's iterator; strings.Trim of white. No statement is proved here. -/
namespace Go.Proofs.YtienjpelmbldpaaGreatDoor
open Go.RowKit
set_option linter.unusedVariables false
set_option linter.unusedSimpArgs false

/-- what is no row of cells stays as it was -/
def IterKept (w w' : World) : Prop := ∀ (b : Nat) (s : ByteArray) (p : Nat), w.heap[b]? = some (Obj.stringIter s p) → w'.heap[b]? = some (Obj.stringIter s p)
theorem buf_not_iter {B : Nat} {v : Value} {l : List UInt8} {W0 w : World} (h : Buf B v l W0 w) {b : Nat} {s : ByteArray} {p : Nat} (hb : w.heap[b]? = some (Obj.stringIter s p)) : v.ownBlock ≠ some b := by
  rcases h.1.2 with ⟨rfl, _⟩ | ⟨g, cap, cur, rfl, _, hh, _⟩
  · simp [Value.ownBlock]
  · intro he
    have e : g = b := by simpa [Value.ownBlock] using he
    subst e
    rw [hh] at hb; cases hb
theorem iter_own {B : Nat} {v : Value} {l : List UInt8} {W0 w w' : World} (h : Buf B v l W0 w) (hg : w.grownBy w' v.ownBlock) : IterKept w w' := fun b s p hb =>
  (hg.block b (Array.getElem?_eq_some_iff.1 hb).1 (fun e => buf_not_iter h hb e.symm)).trans hb

theorem appendRune_any (B : Nat) (v : Value) (l : List UInt8) (W0 w : World) (hb : Buf B v l W0 w) (r : Int) (h0 : 0 ≤ r) (h1 : r ≤ 1114111) (hl : l.length ≤ 70368744177664) :
    Calls Tryz.prog 39 #[v, .int .i32 r] w fun e w' => ∃ v', e = .returned v' ∧ Buf B v' (l ++ runeL r) W0 w' ∧ IterKept w w' := by
  refine (Tryz.utf8_AppendRune_plain B v l.length (cellsOf l) r (by omega) (by omega) w hb.1 (by omega) hb.2.2).mono ?_
  rintro e w' ⟨v', rfl, ho, o, hg⟩
  have hb' := hb.alloc o
  refine ⟨v', rfl, hb'.grown (l' := l ++ runeL r) ?_ hg, fun b s p hx => iter_own hb' hg b s p ?_⟩
  · have e : Lib.runeCells r = cellsOf (runeL r) := (Lib.byteCells_encodeRune r).symm
    have e2 : (Lib.runeCells r).length = (runeL r).length := by rw [e, cellsOf_length]
    rw [e2, e] at ho
    rw [List.length_append, cellsOf, List.map_append]
    exact ho
  · exact (Below.heap_alloc w o b (Array.getElem?_eq_some_iff.1 hx).1).trans hx

theorem Buf.iterAt {B : Nat} {v : Value} {l : List UInt8} {W0 w : World} (h : Buf B v l W0 w) {k : Nat} {s : ByteArray} {p : Nat} (hk : w.heap[k]? = some (Obj.stringIter s p)) (hB : B ≤ k) (p' : Nat) : Buf B v l W0 (w.iterAt k s p') := by
  have hne := buf_not_iter h hk
  refine ⟨⟨h.1.1, ?_⟩, Lib.below_iterAt h.2.1 hB s p', by rw [Lib.iterAt_size]; exact h.2.2⟩
  rcases h.1.2 with ⟨rfl, h0⟩ | ⟨g, cap, cur, rfl, h1, h2, h3⟩
  · exact .inl ⟨rfl, h0⟩
  · refine .inr ⟨g, cap, cur, rfl, h1, ?_, h3⟩
    rw [Lib.iterAt_other _ _ _ _ _ (fun e => hne (by simp [Value.ownBlock, e]))]
    exact h2

end Go.Proofs.YtienjpelmbldpaaGreatDoor

/- WALK of chars.Known. No statement is proved here. -/
namespace Go.Proofs.YtienjpelmbldpaaGreatDoor
open Go.RowKit
set_option linter.unusedVariables false
set_option linter.unusedSimpArgs false

set_option maxRecDepth 100000 in
set_option maxHeartbeats 4000000 in
theorem known_any (s : ByteArray) (w : World) (hs : s.size ≤ 70368744177664) :
    Calls Tryz.prog 125 #[.string s] w fun e w' => e = .returned (knownV (kindL s.data.toList)) ∧ Below w.heap.size w w' := by
  obtain ⟨x, hx⟩ : ∃ x, x = cleanL s.data.toList := ⟨_, rfl⟩
  obtain ⟨X, hX⟩ : ∃ X, X = str x := ⟨_, rfl⟩
  have HX : Hid (str (cleanL s.data.toList) = X) := hide (by rw [hX, hx])
  have hk : kindL s.data.toList = kindOf x := by rw [hx]; rfl
  rw [hk]
  have HXX := hide hX
  have HSZ : Hid ((str (Lib.trimS s.data.toList whiteSet)).size ≤ 70368744177664) := hide (by
    rw [str_size]
    have h := trimS_length s.data.toList whiteSet
    rw [toList_length] at h; omega)
  clear hx hX hk
  by_cases h0 : x = [117, 116, 102, 45, 56]
  · have HV : Hid (knownV (kindOf x) = .tuple #[.string ⟨#[117, 116, 102, 45, 56]⟩, .bool true]) := hide (by rw [h0, show kindOf [117, 116, 102, 45, 56] = 1 from by decide +kernel]; rfl)
    have t0 : (X.toList == [117, 116, 102, 45, 56]) = true := listT HXX.out h0
    clear h0
    go_enter Tryz.func125, Tryz.ntmps125
    go_wp2_with fail
    refine (trim_any s _ (by unfold maxLen; omega)).mono ?_
    rintro e w1 ⟨rfl, hb1⟩
    go_wp2_with fail
    refine (lower_any _ _ HSZ.out).mono ?_
    rintro e w2 ⟨rfl, hb2⟩
    rw [str_toList, show lowL (Lib.trimS s.data.toList whiteSet) = cleanL s.data.toList from rfl, HX.out]
    have hbb := hb1.trans (hb2.mono hb1.size)
    go_wp2_with fail
    go_ret2
    exact ⟨by rw [HV.out]; rfl, hbb⟩
  have t0 : (X.toList == [117, 116, 102, 45, 56]) = false := listF HXX.out h0
  by_cases h1 : x = [117, 116, 102, 56]
  · have HV : Hid (knownV (kindOf x) = .tuple #[.string ⟨#[117, 116, 102, 45, 56]⟩, .bool true]) := hide (by rw [h1, show kindOf [117, 116, 102, 56] = 1 from by decide +kernel]; rfl)
    have t1 : (X.toList == [117, 116, 102, 56]) = true := listT HXX.out h1
    clear h0 h1
    go_enter Tryz.func125, Tryz.ntmps125
    go_wp2_with fail
    refine (trim_any s _ (by unfold maxLen; omega)).mono ?_
    rintro e w1 ⟨rfl, hb1⟩
    go_wp2_with fail
    refine (lower_any _ _ HSZ.out).mono ?_
    rintro e w2 ⟨rfl, hb2⟩
    rw [str_toList, show lowL (Lib.trimS s.data.toList whiteSet) = cleanL s.data.toList from rfl, HX.out]
    have hbb := hb1.trans (hb2.mono hb1.size)
    go_wp2_with fail
    go_ret2
    exact ⟨by rw [HV.out]; rfl, hbb⟩
  have t1 : (X.toList == [117, 116, 102, 56]) = false := listF HXX.out h1
  by_cases h2 : x = [117, 110, 105, 99, 111, 100, 101, 45, 49, 45, 49, 45, 117, 116, 102, 45, 56]
  · have HV : Hid (knownV (kindOf x) = .tuple #[.string ⟨#[117, 116, 102, 45, 56]⟩, .bool true]) := hide (by rw [h2, show kindOf [117, 110, 105, 99, 111, 100, 101, 45, 49, 45, 49, 45, 117, 116, 102, 45, 56] = 1 from by decide +kernel]; rfl)
    have t2 : (X.toList == [117, 110, 105, 99, 111, 100, 101, 45, 49, 45, 49, 45, 117, 116, 102, 45, 56]) = true := listT HXX.out h2
    clear h0 h1 h2
    go_enter Tryz.func125, Tryz.ntmps125
    go_wp2_with fail
    refine (trim_any s _ (by unfold maxLen; omega)).mono ?_
    rintro e w1 ⟨rfl, hb1⟩
    go_wp2_with fail
    refine (lower_any _ _ HSZ.out).mono ?_
    rintro e w2 ⟨rfl, hb2⟩
    rw [str_toList, show lowL (Lib.trimS s.data.toList whiteSet) = cleanL s.data.toList from rfl, HX.out]
    have hbb := hb1.trans (hb2.mono hb1.size)
    go_wp2_with fail
    go_ret2
    exact ⟨by rw [HV.out]; rfl, hbb⟩
  have t2 : (X.toList == [117, 110, 105, 99, 111, 100, 101, 45, 49, 45, 49, 45, 117, 116, 102, 45, 56]) = false := listF HXX.out h2
  by_cases h3 : x = [119, 105, 110, 100, 111, 119, 115, 45, 49, 50, 53, 50]
  · have HV : Hid (knownV (kindOf x) = .tuple #[.string ⟨#[119, 105, 110, 100, 111, 119, 115, 45, 49, 50, 53, 50]⟩, .bool true]) := hide (by rw [h3, show kindOf [119, 105, 110, 100, 111, 119, 115, 45, 49, 50, 53, 50] = 2 from by decide +kernel]; rfl)
    have t3 : (X.toList == [119, 105, 110, 100, 111, 119, 115, 45, 49, 50, 53, 50]) = true := listT HXX.out h3
    clear h0 h1 h2 h3
    go_enter Tryz.func125, Tryz.ntmps125
    go_wp2_with fail
    refine (trim_any s _ (by unfold maxLen; omega)).mono ?_
    rintro e w1 ⟨rfl, hb1⟩
    go_wp2_with fail
    refine (lower_any _ _ HSZ.out).mono ?_
    rintro e w2 ⟨rfl, hb2⟩
    rw [str_toList, show lowL (Lib.trimS s.data.toList whiteSet) = cleanL s.data.toList from rfl, HX.out]
    have hbb := hb1.trans (hb2.mono hb1.size)
    go_wp2_with fail
    go_ret2
    exact ⟨by rw [HV.out]; rfl, hbb⟩
  have t3 : (X.toList == [119, 105, 110, 100, 111, 119, 115, 45, 49, 50, 53, 50]) = false := listF HXX.out h3
  by_cases h4 : x = [99, 112, 49, 50, 53, 50]
  · have HV : Hid (knownV (kindOf x) = .tuple #[.string ⟨#[119, 105, 110, 100, 111, 119, 115, 45, 49, 50, 53, 50]⟩, .bool true]) := hide (by rw [h4, show kindOf [99, 112, 49, 50, 53, 50] = 2 from by decide +kernel]; rfl)
    have t4 : (X.toList == [99, 112, 49, 50, 53, 50]) = true := listT HXX.out h4
    clear h0 h1 h2 h3 h4
    go_enter Tryz.func125, Tryz.ntmps125
    go_wp2_with fail
    refine (trim_any s _ (by unfold maxLen; omega)).mono ?_
    rintro e w1 ⟨rfl, hb1⟩
    go_wp2_with fail
    refine (lower_any _ _ HSZ.out).mono ?_
    rintro e w2 ⟨rfl, hb2⟩
    rw [str_toList, show lowL (Lib.trimS s.data.toList whiteSet) = cleanL s.data.toList from rfl, HX.out]
    have hbb := hb1.trans (hb2.mono hb1.size)
    go_wp2_with fail
    go_ret2
    exact ⟨by rw [HV.out]; rfl, hbb⟩
  have t4 : (X.toList == [99, 112, 49, 50, 53, 50]) = false := listF HXX.out h4
  by_cases h5 : x = [117, 115, 45, 97, 115, 99, 105, 105]
  · have HV : Hid (knownV (kindOf x) = .tuple #[.string ⟨#[119, 105, 110, 100, 111, 119, 115, 45, 49, 50, 53, 50]⟩, .bool true]) := hide (by rw [h5, show kindOf [117, 115, 45, 97, 115, 99, 105, 105] = 2 from by decide +kernel]; rfl)
    have t5 : (X.toList == [117, 115, 45, 97, 115, 99, 105, 105]) = true := listT HXX.out h5
    clear h0 h1 h2 h3 h4 h5
    go_enter Tryz.func125, Tryz.ntmps125
    go_wp2_with fail
    refine (trim_any s _ (by unfold maxLen; omega)).mono ?_
    rintro e w1 ⟨rfl, hb1⟩
    go_wp2_with fail
    refine (lower_any _ _ HSZ.out).mono ?_
    rintro e w2 ⟨rfl, hb2⟩
    rw [str_toList, show lowL (Lib.trimS s.data.toList whiteSet) = cleanL s.data.toList from rfl, HX.out]
    have hbb := hb1.trans (hb2.mono hb1.size)
    go_wp2_with fail
    go_ret2
    exact ⟨by rw [HV.out]; rfl, hbb⟩
  have t5 : (X.toList == [117, 115, 45, 97, 115, 99, 105, 105]) = false := listF HXX.out h5
  by_cases h6 : x = [97, 115, 99, 105, 105]
  · have HV : Hid (knownV (kindOf x) = .tuple #[.string ⟨#[119, 105, 110, 100, 111, 119, 115, 45, 49, 50, 53, 50]⟩, .bool true]) := hide (by rw [h6, show kindOf [97, 115, 99, 105, 105] = 2 from by decide +kernel]; rfl)
    have t6 : (X.toList == [97, 115, 99, 105, 105]) = true := listT HXX.out h6
    clear h0 h1 h2 h3 h4 h5 h6
    go_enter Tryz.func125, Tryz.ntmps125
    go_wp2_with fail
    refine (trim_any s _ (by unfold maxLen; omega)).mono ?_
    rintro e w1 ⟨rfl, hb1⟩
    go_wp2_with fail
    refine (lower_any _ _ HSZ.out).mono ?_
    rintro e w2 ⟨rfl, hb2⟩
    rw [str_toList, show lowL (Lib.trimS s.data.toList whiteSet) = cleanL s.data.toList from rfl, HX.out]
    have hbb := hb1.trans (hb2.mono hb1.size)
    go_wp2_with fail
    go_ret2
    exact ⟨by rw [HV.out]; rfl, hbb⟩
  have t6 : (X.toList == [97, 115, 99, 105, 105]) = false := listF HXX.out h6
  by_cases h7 : x = [105, 115, 111, 45, 56, 56, 53, 57, 45, 49]
  · have HV : Hid (knownV (kindOf x) = .tuple #[.string ⟨#[119, 105, 110, 100, 111, 119, 115, 45, 49, 50, 53, 50]⟩, .bool true]) := hide (by rw [h7, show kindOf [105, 115, 111, 45, 56, 56, 53, 57, 45, 49] = 2 from by decide +kernel]; rfl)
    have t7 : (X.toList == [105, 115, 111, 45, 56, 56, 53, 57, 45, 49]) = true := listT HXX.out h7
    clear h0 h1 h2 h3 h4 h5 h6 h7
    go_enter Tryz.func125, Tryz.ntmps125
    go_wp2_with fail
    refine (trim_any s _ (by unfold maxLen; omega)).mono ?_
    rintro e w1 ⟨rfl, hb1⟩
    go_wp2_with fail
    refine (lower_any _ _ HSZ.out).mono ?_
    rintro e w2 ⟨rfl, hb2⟩
    rw [str_toList, show lowL (Lib.trimS s.data.toList whiteSet) = cleanL s.data.toList from rfl, HX.out]
    have hbb := hb1.trans (hb2.mono hb1.size)
    go_wp2_with fail
    go_ret2
    exact ⟨by rw [HV.out]; rfl, hbb⟩
  have t7 : (X.toList == [105, 115, 111, 45, 56, 56, 53, 57, 45, 49]) = false := listF HXX.out h7
  by_cases h8 : x = [105, 115, 111, 56, 56, 53, 57, 45, 49]
  · have HV : Hid (knownV (kindOf x) = .tuple #[.string ⟨#[119, 105, 110, 100, 111, 119, 115, 45, 49, 50, 53, 50]⟩, .bool true]) := hide (by rw [h8, show kindOf [105, 115, 111, 56, 56, 53, 57, 45, 49] = 2 from by decide +kernel]; rfl)
    have t8 : (X.toList == [105, 115, 111, 56, 56, 53, 57, 45, 49]) = true := listT HXX.out h8
    clear h0 h1 h2 h3 h4 h5 h6 h7 h8
    go_enter Tryz.func125, Tryz.ntmps125
    go_wp2_with fail
    refine (trim_any s _ (by unfold maxLen; omega)).mono ?_
    rintro e w1 ⟨rfl, hb1⟩
    go_wp2_with fail
    refine (lower_any _ _ HSZ.out).mono ?_
    rintro e w2 ⟨rfl, hb2⟩
    rw [str_toList, show lowL (Lib.trimS s.data.toList whiteSet) = cleanL s.data.toList from rfl, HX.out]
    have hbb := hb1.trans (hb2.mono hb1.size)
    go_wp2_with fail
    go_ret2
    exact ⟨by rw [HV.out]; rfl, hbb⟩
  have t8 : (X.toList == [105, 115, 111, 56, 56, 53, 57, 45, 49]) = false := listF HXX.out h8
  by_cases h9 : x = [108, 97, 116, 105, 110, 49]
  · have HV : Hid (knownV (kindOf x) = .tuple #[.string ⟨#[119, 105, 110, 100, 111, 119, 115, 45, 49, 50, 53, 50]⟩, .bool true]) := hide (by rw [h9, show kindOf [108, 97, 116, 105, 110, 49] = 2 from by decide +kernel]; rfl)
    have t9 : (X.toList == [108, 97, 116, 105, 110, 49]) = true := listT HXX.out h9
    clear h0 h1 h2 h3 h4 h5 h6 h7 h8 h9
    go_enter Tryz.func125, Tryz.ntmps125
    go_wp2_with fail
    refine (trim_any s _ (by unfold maxLen; omega)).mono ?_
    rintro e w1 ⟨rfl, hb1⟩
    go_wp2_with fail
    refine (lower_any _ _ HSZ.out).mono ?_
    rintro e w2 ⟨rfl, hb2⟩
    rw [str_toList, show lowL (Lib.trimS s.data.toList whiteSet) = cleanL s.data.toList from rfl, HX.out]
    have hbb := hb1.trans (hb2.mono hb1.size)
    go_wp2_with fail
    go_ret2
    exact ⟨by rw [HV.out]; rfl, hbb⟩
  have t9 : (X.toList == [108, 97, 116, 105, 110, 49]) = false := listF HXX.out h9
  by_cases h10 : x = [108, 49]
  · have HV : Hid (knownV (kindOf x) = .tuple #[.string ⟨#[119, 105, 110, 100, 111, 119, 115, 45, 49, 50, 53, 50]⟩, .bool true]) := hide (by rw [h10, show kindOf [108, 49] = 2 from by decide +kernel]; rfl)
    have t10 : (X.toList == [108, 49]) = true := listT HXX.out h10
    clear h0 h1 h2 h3 h4 h5 h6 h7 h8 h9 h10
    go_enter Tryz.func125, Tryz.ntmps125
    go_wp2_with fail
    refine (trim_any s _ (by unfold maxLen; omega)).mono ?_
    rintro e w1 ⟨rfl, hb1⟩
    go_wp2_with fail
    refine (lower_any _ _ HSZ.out).mono ?_
    rintro e w2 ⟨rfl, hb2⟩
    rw [str_toList, show lowL (Lib.trimS s.data.toList whiteSet) = cleanL s.data.toList from rfl, HX.out]
    have hbb := hb1.trans (hb2.mono hb1.size)
    go_wp2_with fail
    go_ret2
    exact ⟨by rw [HV.out]; rfl, hbb⟩
  have t10 : (X.toList == [108, 49]) = false := listF HXX.out h10
  by_cases h11 : x = [117, 116, 102, 45, 49, 54, 108, 101]
  · have HV : Hid (knownV (kindOf x) = .tuple #[.string ⟨#[117, 116, 102, 45, 49, 54, 108, 101]⟩, .bool true]) := hide (by rw [h11, show kindOf [117, 116, 102, 45, 49, 54, 108, 101] = 3 from by decide +kernel]; rfl)
    have t11 : (X.toList == [117, 116, 102, 45, 49, 54, 108, 101]) = true := listT HXX.out h11
    clear h0 h1 h2 h3 h4 h5 h6 h7 h8 h9 h10 h11
    go_enter Tryz.func125, Tryz.ntmps125
    go_wp2_with fail
    refine (trim_any s _ (by unfold maxLen; omega)).mono ?_
    rintro e w1 ⟨rfl, hb1⟩
    go_wp2_with fail
    refine (lower_any _ _ HSZ.out).mono ?_
    rintro e w2 ⟨rfl, hb2⟩
    rw [str_toList, show lowL (Lib.trimS s.data.toList whiteSet) = cleanL s.data.toList from rfl, HX.out]
    have hbb := hb1.trans (hb2.mono hb1.size)
    go_wp2_with fail
    go_ret2
    exact ⟨by rw [HV.out]; rfl, hbb⟩
  have t11 : (X.toList == [117, 116, 102, 45, 49, 54, 108, 101]) = false := listF HXX.out h11
  by_cases h12 : x = [117, 116, 102, 45, 49, 54]
  · have HV : Hid (knownV (kindOf x) = .tuple #[.string ⟨#[117, 116, 102, 45, 49, 54, 108, 101]⟩, .bool true]) := hide (by rw [h12, show kindOf [117, 116, 102, 45, 49, 54] = 3 from by decide +kernel]; rfl)
    have t12 : (X.toList == [117, 116, 102, 45, 49, 54]) = true := listT HXX.out h12
    clear h0 h1 h2 h3 h4 h5 h6 h7 h8 h9 h10 h11 h12
    go_enter Tryz.func125, Tryz.ntmps125
    go_wp2_with fail
    refine (trim_any s _ (by unfold maxLen; omega)).mono ?_
    rintro e w1 ⟨rfl, hb1⟩
    go_wp2_with fail
    refine (lower_any _ _ HSZ.out).mono ?_
    rintro e w2 ⟨rfl, hb2⟩
    rw [str_toList, show lowL (Lib.trimS s.data.toList whiteSet) = cleanL s.data.toList from rfl, HX.out]
    have hbb := hb1.trans (hb2.mono hb1.size)
    go_wp2_with fail
    go_ret2
    exact ⟨by rw [HV.out]; rfl, hbb⟩
  have t12 : (X.toList == [117, 116, 102, 45, 49, 54]) = false := listF HXX.out h12
  by_cases h13 : x = [117, 110, 105, 99, 111, 100, 101]
  · have HV : Hid (knownV (kindOf x) = .tuple #[.string ⟨#[117, 116, 102, 45, 49, 54, 108, 101]⟩, .bool true]) := hide (by rw [h13, show kindOf [117, 110, 105, 99, 111, 100, 101] = 3 from by decide +kernel]; rfl)
    have t13 : (X.toList == [117, 110, 105, 99, 111, 100, 101]) = true := listT HXX.out h13
    clear h0 h1 h2 h3 h4 h5 h6 h7 h8 h9 h10 h11 h12 h13
    go_enter Tryz.func125, Tryz.ntmps125
    go_wp2_with fail
    refine (trim_any s _ (by unfold maxLen; omega)).mono ?_
    rintro e w1 ⟨rfl, hb1⟩
    go_wp2_with fail
    refine (lower_any _ _ HSZ.out).mono ?_
    rintro e w2 ⟨rfl, hb2⟩
    rw [str_toList, show lowL (Lib.trimS s.data.toList whiteSet) = cleanL s.data.toList from rfl, HX.out]
    have hbb := hb1.trans (hb2.mono hb1.size)
    go_wp2_with fail
    go_ret2
    exact ⟨by rw [HV.out]; rfl, hbb⟩
  have t13 : (X.toList == [117, 110, 105, 99, 111, 100, 101]) = false := listF HXX.out h13
  by_cases h14 : x = [117, 99, 115, 45, 50]
  · have HV : Hid (knownV (kindOf x) = .tuple #[.string ⟨#[117, 116, 102, 45, 49, 54, 108, 101]⟩, .bool true]) := hide (by rw [h14, show kindOf [117, 99, 115, 45, 50] = 3 from by decide +kernel]; rfl)
    have t14 : (X.toList == [117, 99, 115, 45, 50]) = true := listT HXX.out h14
    clear h0 h1 h2 h3 h4 h5 h6 h7 h8 h9 h10 h11 h12 h13 h14
    go_enter Tryz.func125, Tryz.ntmps125
    go_wp2_with fail
    refine (trim_any s _ (by unfold maxLen; omega)).mono ?_
    rintro e w1 ⟨rfl, hb1⟩
    go_wp2_with fail
    refine (lower_any _ _ HSZ.out).mono ?_
    rintro e w2 ⟨rfl, hb2⟩
    rw [str_toList, show lowL (Lib.trimS s.data.toList whiteSet) = cleanL s.data.toList from rfl, HX.out]
    have hbb := hb1.trans (hb2.mono hb1.size)
    go_wp2_with fail
    go_ret2
    exact ⟨by rw [HV.out]; rfl, hbb⟩
  have t14 : (X.toList == [117, 99, 115, 45, 50]) = false := listF HXX.out h14
  by_cases h15 : x = [117, 116, 102, 45, 49, 54, 98, 101]
  · have HV : Hid (knownV (kindOf x) = .tuple #[.string ⟨#[117, 116, 102, 45, 49, 54, 98, 101]⟩, .bool true]) := hide (by rw [h15, show kindOf [117, 116, 102, 45, 49, 54, 98, 101] = 4 from by decide +kernel]; rfl)
    have t15 : (X.toList == [117, 116, 102, 45, 49, 54, 98, 101]) = true := listT HXX.out h15
    clear h0 h1 h2 h3 h4 h5 h6 h7 h8 h9 h10 h11 h12 h13 h14 h15
    go_enter Tryz.func125, Tryz.ntmps125
    go_wp2_with fail
    refine (trim_any s _ (by unfold maxLen; omega)).mono ?_
    rintro e w1 ⟨rfl, hb1⟩
    go_wp2_with fail
    refine (lower_any _ _ HSZ.out).mono ?_
    rintro e w2 ⟨rfl, hb2⟩
    rw [str_toList, show lowL (Lib.trimS s.data.toList whiteSet) = cleanL s.data.toList from rfl, HX.out]
    have hbb := hb1.trans (hb2.mono hb1.size)
    go_wp2_with fail
    go_ret2
    exact ⟨by rw [HV.out]; rfl, hbb⟩
  have t15 : (X.toList == [117, 116, 102, 45, 49, 54, 98, 101]) = false := listF HXX.out h15
  by_cases h16 : x = [117, 110, 105, 99, 111, 100, 101, 102, 102, 102, 101]
  · have HV : Hid (knownV (kindOf x) = .tuple #[.string ⟨#[117, 116, 102, 45, 49, 54, 98, 101]⟩, .bool true]) := hide (by rw [h16, show kindOf [117, 110, 105, 99, 111, 100, 101, 102, 102, 102, 101] = 4 from by decide +kernel]; rfl)
    have t16 : (X.toList == [117, 110, 105, 99, 111, 100, 101, 102, 102, 102, 101]) = true := listT HXX.out h16
    clear h0 h1 h2 h3 h4 h5 h6 h7 h8 h9 h10 h11 h12 h13 h14 h15 h16
    go_enter Tryz.func125, Tryz.ntmps125
    go_wp2_with fail
    refine (trim_any s _ (by unfold maxLen; omega)).mono ?_
    rintro e w1 ⟨rfl, hb1⟩
    go_wp2_with fail
    refine (lower_any _ _ HSZ.out).mono ?_
    rintro e w2 ⟨rfl, hb2⟩
    rw [str_toList, show lowL (Lib.trimS s.data.toList whiteSet) = cleanL s.data.toList from rfl, HX.out]
    have hbb := hb1.trans (hb2.mono hb1.size)
    go_wp2_with fail
    go_ret2
    exact ⟨by rw [HV.out]; rfl, hbb⟩
  have t16 : (X.toList == [117, 110, 105, 99, 111, 100, 101, 102, 102, 102, 101]) = false := listF HXX.out h16
  have HV : Hid (knownV (kindOf x) = .tuple #[.string ⟨#[]⟩, .bool false]) := hide (by
    rw [kind_none (x := x) (by
      intro y hy
      simp only [labels, List.mem_cons, List.mem_nil_iff, or_false] at hy
      rcases hy with rfl | rfl | rfl | rfl | rfl | rfl | rfl | rfl | rfl | rfl | rfl | rfl | rfl | rfl | rfl | rfl | rfl
      all_goals assumption)]
    rfl)
  clear h0 h1 h2 h3 h4 h5 h6 h7 h8 h9 h10 h11 h12 h13 h14 h15 h16
  go_enter Tryz.func125, Tryz.ntmps125
  go_wp2_with fail
  refine (trim_any s _ (by unfold maxLen; omega)).mono ?_
  rintro e w1 ⟨rfl, hb1⟩
  go_wp2_with fail
  refine (lower_any _ _ HSZ.out).mono ?_
  rintro e w2 ⟨rfl, hb2⟩
  rw [str_toList, show lowL (Lib.trimS s.data.toList whiteSet) = cleanL s.data.toList from rfl, HX.out]
  have hbb := hb1.trans (hb2.mono hb1.size)
  go_wp2_with fail
  go_ret2
  exact ⟨by rw [HV.out]; rfl, hbb⟩
end Go.Proofs.YtienjpelmbldpaaGreatDoor

/- WALKS of chars.Valid, fromWindows, number, firstSign, fromPairs. No statement is proved here. -/
namespace Go.Proofs.YtienjpelmbldpaaGreatDoor
open Go.RowKit
set_option linter.unusedVariables false
set_option linter.unusedSimpArgs false

set_option maxHeartbeats 1000000 in
theorem valid_any (s : ByteArray) (w : World) (hs : s.size ≤ 1048576) :
    Calls Tryz.prog 18 #[.string s] w fun e w' => e = .returned (.string (str (validL s.data.toList))) ∧ Below w.heap.size w w' := by
  go_enter Tryz.func18, Tryz.ntmps18
  go_wp2_with (refine wpList_buf_make rfl _ _ rfl w.heap.size w (Below.refl _ _) (Nat.le_refl _) s.size s.size rfl rfl rfl (by omega) ?_; intro v0 w0 hb0)
  have hbz := hb0.2.2
  have hit : (w0.iter s 0).heap[w0.heap.size]? = some (Obj.stringIter s 0) := heap_alloc_new w0 _
  go_loopw [3] (fun v wr => ∃ (pos : Nat) (acc : List UInt8), pos ≤ s.size ∧ wr.heap[w0.heap.size]? = some (Obj.stringIter s pos) ∧ Buf w.heap.size v acc w wr ∧ acc.length ≤ 3 * pos ∧ acc ++ validL (s.data.toList.drop pos) = validL s.data.toList) (fun _ wr => s.size - wr.iterPos w0.heap.size)
  case atStart => exact ⟨0, [], Nat.zero_le _, hit, hb0.alloc _, Nat.le_refl _, by simp⟩
  case round =>
    obtain ⟨pos, acc, hpos, hk, hb, hacc, hd⟩ := hrel
    have HB := hide hb
    have HK := hide hk
    clear hb hk
    by_cases hlt : pos < s.size
    · have hnx := fun ty => Lib.run_next_any_at (P := Tryz.prog) wr w0.heap.size s pos ty HK.out hlt
      have hne : s.data.toList.drop pos ≠ [] := by rw [drop_cons s pos hlt]; simp
      have hsp := decL_spec _ hne
      have hst := vStep_pos' _ hne
      have hR := valid_round hd hne
      rw [List.drop_drop] at hR
      rw [decode_decL s pos hlt] at hnx
      rw [List.length_drop, toList_length] at hst
      generalize decL (s.data.toList.drop pos) = dl at hnx hsp
      obtain ⟨r, n⟩ := dl
      simp only at hsp hnx
      rw [← hsp.1, ← hsp.2.1] at hR
      rw [← hsp.1, ← hsp.2.1] at hst
      have hr := hsp.2.2
      clear hsp
      obtain ⟨hn1, hn2, hn3, hn4⟩ := hst
      have HR := hide hR
      have HI := hide (Lib.iterAt_heap wr w0.heap.size s pos (pos + n) HK.out)
      have HB1 := hide (HB.out.iterAt HK.out (by omega) (pos + n))
      clear hR hd hne
      go_wp2_with fail
      refine (appendRune_any w.heap.size u3 acc w _ HB1.out (r : Int) (by omega) (by omega) (by omega)).mono ?_
      rintro e w1 ⟨v1, rfl, hb1, hi1⟩
      have HB2 := hide hb1
      have HI2 := hide (hi1 _ _ _ HI.out)
      clear hb1 hi1
      go_wp2_with fail
      go_roundw
      case rel => exact ⟨pos + n, acc ++ _, by omega, HI2.out, HB2.out, by rw [List.length_append]; omega, HR.out⟩
      case measure =>
        have e1 : World.iterPos w1 w0.heap.size = pos + n := by unfold World.iterPos; rw [HI2.out]
        have e2 : World.iterPos wr w0.heap.size = pos := by unfold World.iterPos; rw [HK.out]
        rw [e1, e2]; omega
    · have hnx := fun ty => Lib.run_next_end_at (P := Tryz.prog) wr w0.heap.size s pos ty HK.out hlt
      have hcv := HB.out.convert
      go_wp2
      go_ret
      refine ⟨?_, HB.out.below⟩
      rw [drop_nil s pos (by omega), validL_nil, List.append_nil] at hd
      exact ret_str (by rw [hd])

/-- the table in memory -/
def Tab (w : World) : Prop := ∀ j : Nat, j < 32 → w.cell? ⟨1, j, none⟩ = some (.int .i32 (winTab.getD j 0))
theorem Tab.lt {w : World} (h : Tab w) : 1 < w.heap.size := by
  have := h 0 (by omega)
  rcases Nat.lt_or_ge 1 w.heap.size with h1 | h1
  · exact h1
  · unfold World.cell? at this
    rw [Array.getElem?_eq_none h1] at this; cases this
theorem Tab.below {B : Nat} {w w' : World} (h : Tab w) (hb : Below B w w') (hB : 1 < B) : Tab w' := fun j hj => by
  rw [← h j hj]
  exact hb.cell (by exact hB)

set_option maxHeartbeats 1000000 in
theorem fromWindows_any (s : ByteArray) (w : World) (hs : s.size ≤ 1048576) (hT : Tab w) :
    Calls Tryz.prog 126 #[.string s] w fun e w' => e = .returned (.string (str (winL s.data.toList))) ∧ Below w.heap.size w w' := by
  have HT := hide hT
  have h0 := hT.lt
  clear hT
  go_enter Tryz.func126, Tryz.ntmps126
  go_wp2_with (refine wpList_buf_make rfl _ _ rfl w.heap.size w (Below.refl _ _) (Nat.le_refl _) s.size s.size rfl rfl rfl (by omega) ?_; intro v0 w0 hb0)
  go_loopw [3, 12] (fun v i wr => ∃ (k : Nat) (acc : List UInt8), k ≤ s.size ∧ i = .int .i64 k ∧ Buf w.heap.size v acc w wr ∧ acc.length ≤ 3 * k ∧ acc ++ winL (s.data.toList.drop k) = winL s.data.toList) (fun _ i _ => s.size - (intOf i).toNat)
  case atStart => exact ⟨0, [], Nat.zero_le _, rfl, hb0, Nat.le_refl _, by simp⟩
  case round =>
    obtain ⟨k, acc, hk, rfl, hb, hacc, hd⟩ := hrel
    have HB := hide hb
    clear hb
    by_cases hlt : k < s.size
    · rw [drop_cons s k hlt, winL_cons, ← List.append_assoc] at hd
      have HR := hide hd
      have hcase := winR_case s[k]
      have hl3 := winR_length s[k]
      have hrg := winR_range s[k]
      have hbl := byte_lt s[k]
      generalize hc : s[k] = c at hd hcase hl3 hrg hbl
      rw [hc] at HR
      clear hd
      rcases hcase with ⟨c1, e⟩ | ⟨c1, c2, e⟩ | ⟨c1, e⟩
      · rw [e] at HR hl3
        clear e
        go_wp2_with fail
        refine (appendRune_any w.heap.size u3 acc w wr HB.out c.toNat (by omega) (by omega) (by omega)).mono ?_
        rintro e w1 ⟨v1, rfl, hb1, _⟩
        have HB1 := hide hb1
        clear hb1
        go_wp2_with fail
        go_roundw
        case rel => exact ⟨k + 1, acc ++ _, by omega, by go_num, HB1.out, by rw [List.length_append]; omega, HR.out⟩
        case measure => simp [intOf]; omega
      · have hcell := (HT.out.below HB.out.below h0) (c.toNat - 128) (by omega)
        rw [← e] at hcell
        have q1 : ((c.toNat : Int) - 128).toNat = c.toNat - 128 := by omega
        generalize winR c = rr at HR hl3 hrg hcell e
        clear e
        go_wp2_with fail
        refine (appendRune_any w.heap.size u3 acc w wr HB.out rr (by omega) (by omega) (by omega)).mono ?_
        rintro e w1 ⟨v1, rfl, hb1, _⟩
        have HB1 := hide hb1
        clear hb1
        go_wp2_with fail
        go_roundw
        case rel => exact ⟨k + 1, acc ++ _, by omega, by go_num, HB1.out, by rw [List.length_append]; omega, HR.out⟩
        case measure => simp [intOf]; omega
      · rw [e] at HR hl3
        clear e
        go_wp2_with fail
        refine (appendRune_any w.heap.size u3 acc w wr HB.out c.toNat (by omega) (by omega) (by omega)).mono ?_
        rintro e w1 ⟨v1, rfl, hb1, _⟩
        have HB1 := hide hb1
        clear hb1
        go_wp2_with fail
        go_roundw
        case rel => exact ⟨k + 1, acc ++ _, by omega, by go_num, HB1.out, by rw [List.length_append]; omega, HR.out⟩
        case measure => simp [intOf]; omega
    · have hcv := HB.out.convert
      go_wp2
      go_ret
      refine ⟨?_, HB.out.below⟩
      rw [drop_nil s k (by omega)] at hd
      rw [show winL [] = [] from rfl, List.append_nil] at hd
      exact ret_str (by rw [hd])
end Go.Proofs.YtienjpelmbldpaaGreatDoor

/- WALKS of chars.number, firstSign, fromPairs. No statement is proved here. -/
namespace Go.Proofs.YtienjpelmbldpaaGreatDoor
open Go.RowKit
set_option linter.unusedVariables false
set_option linter.unusedSimpArgs false

theorem or_bytes (a b : Nat) (ha : a < 256) (hb : b < 256) : bits .or .i32 ((a : Int) * 256) (b : Int) = ((256 * a + b : Nat) : Int) := by
  have h1 : (BitVec.ofInt 32 ((a : Int) * 256)).toNat = a * 256 := by
    rw [show (a : Int) * 256 = ((a * 256 : Nat) : Int) from by omega, BitVec.ofInt_natCast, BitVec.toNat_ofNat]; exact Nat.mod_eq_of_lt (by omega)
  have h2 : (BitVec.ofInt 32 (b : Int)).toNat = b := by
    rw [BitVec.ofInt_natCast, BitVec.toNat_ofNat]; exact Nat.mod_eq_of_lt (by omega)
  show IntKind.i32.wrap ((BitVec.ofInt 32 ((a : Int) * 256) ||| BitVec.ofInt 32 (b : Int)).toNat : Int) = _
  rw [BitVec.toNat_or, h1, h2]
  have e : a * 256 ||| b = 256 * a + b := by
    have := Nat.two_pow_add_eq_or_of_lt (i := 8) (b := b) (by omega) a
    rw [Nat.mul_comm a 256]
    exact this.symm
  rw [e]
  exact IntWalk.i32_in _ (by omega)

/-- the place of the higher byte -/
def hiAt (big : Bool) : Int := if big then 0 else 1
set_option maxHeartbeats 1000000 in
theorem number_any (s : ByteArray) (big : Bool) (w : World) (hs : s.size ≤ maxLen) (h2 : 1 < s.size) :
    Calls Tryz.prog 156 #[.string s, .int .i64 (hiAt big)] w fun e w' => e = .returned (.int .i32 (num big s[0] s[1])) ∧ Below w.heap.size w w' := by
  unfold maxLen at hs
  have ha := byte_lt s[0]
  have hb := byte_lt s[1]
  have i0 : (0 : Int) < s.size := by omega
  have i1 : (1 : Int) < s.size := by omega
  have n0 : 0 < s.size := by omega
  cases big
  · have ho := or_bytes s[1].toNat s[0].toNat hb ha
    show Calls _ _ #[.string s, .int .i64 1] _ _
    go_enter Tryz.func156, Tryz.ntmps156
    go_wp2_with fail
    go_region
    all_goals (try go_wp2)
    all_goals
      go_ret
      exact ⟨ret_int (by unfold num; simp), (Below.refl _ _).drew⟩
  · have ho := or_bytes s[0].toNat s[1].toNat ha hb
    show Calls _ _ #[.string s, .int .i64 0] _ _
    go_enter Tryz.func156, Tryz.ntmps156
    go_wp2_with fail
    go_region
    all_goals (try go_wp2)
    all_goals
      go_ret
      exact ⟨ret_int (by unfold num; simp), (Below.refl _ _).drew⟩
theorem number_list (s : ByteArray) (big : Bool) (a b : UInt8) (r : List UInt8) (w : World) (hs : s.size ≤ maxLen) (h : s.data.toList = a :: b :: r) :
    Calls Tryz.prog 156 #[.string s, .int .i64 (hiAt big)] w fun e w' => e = .returned (.int .i32 (num big a b)) ∧ Below w.heap.size w w' := by
  have hl := toList_length s
  rw [h] at hl
  simp only [List.length_cons] at hl
  have h1 : 1 < s.size := by omega
  have e := drop_cons s 0 (by omega)
  rw [List.drop_zero, drop_cons s 1 h1, h] at e
  injection e with e1 e
  injection e with e2 e
  have := number_any s big w hs h1
  rw [← e1, ← e2] at this
  exact this

/-- what firstSign answers -/
def fsV (big : Bool) (l : List UInt8) : Value := .tuple #[.int .i32 (fsS big l).1, .int .i64 (fsS big l).2]
theorem fsV_of {big : Bool} {l : List UInt8} {z : Int} {n : Nat} (h : fsS big l = (z, n)) : fsV big l = .tuple #[.int .i32 z, .int .i64 n] := by unfold fsV; rw [h]
set_option maxRecDepth 100000 in
set_option maxHeartbeats 2000000 in
theorem firstSign_any (s : ByteArray) (big : Bool) (w : World) (hs : s.size ≤ maxLen) (h2 : 1 < s.size) :
    Calls Tryz.prog 143 #[.string s, .int .i64 (hiAt big)] w fun e w' => e = .returned (fsV big s.data.toList) ∧ Below w.heap.size w w' := by
  have hs' := hs
  unfold maxLen at hs
  obtain ⟨a, b, r, hl⟩ : ∃ a b r, s.data.toList = a :: b :: r := by
    have e := drop_cons s 0 (by omega)
    rw [List.drop_zero, drop_cons s 1 h2] at e
    exact ⟨_, _, _, e⟩
  have hlen := toList_length s
  rw [hl] at hlen
  simp only [List.length_cons] at hlen
  have HN := hide (fun (w : World) => number_list s big a b r w hs' hl)
  have hlt := num_lt big a b
  obtain ⟨x, hx⟩ : ∃ x, x = num big a b := ⟨_, rfl⟩
  rw [hl]
  have hi : ∃ z, z = hiAt big := ⟨_, rfl⟩
  obtain ⟨z, hz⟩ := hi
  rw [← hz]
  have HZ := hide hz
  rw [← hz, ← hx] at HN
  rw [← hx] at hlt
  have HX := hide hx
  clear hx hz
  by_cases c1 : x < 55296
  · have HV := hide (fsV_of (big := big) (l := a :: b :: r) (z := x) (n := 2) (by rw [fsS, ← HX.out, if_pos (.inl c1)]))
    clear hlen
    go_enter Tryz.func143, Tryz.ntmps143
    go_wp2_with fail
    refine (HN.out _).mono ?_
    rintro e w1 ⟨rfl, hb1⟩
    go_wp2_with fail
    go_ret2
    exact ⟨by rw [HV.out]; rfl, hb1⟩
  by_cases c2 : 57344 ≤ x
  · have HV := hide (fsV_of (big := big) (l := a :: b :: r) (z := x) (n := 2) (by rw [fsS, ← HX.out, if_pos (.inr c2)]))
    clear hlen
    go_enter Tryz.func143, Tryz.ntmps143
    go_wp2_with fail
    refine (HN.out _).mono ?_
    rintro e w1 ⟨rfl, hb1⟩
    go_wp2_with fail
    go_ret2
    exact ⟨by rw [HV.out]; rfl, hb1⟩
  have c12 : ¬ (x < 55296 ∨ 57344 ≤ x) := by omega
  have t1 : decide ((x : Int) < 55296) = false := decide_eq_false (by omega)
  have t2 : decide ((57344 : Int) ≤ x) = false := decide_eq_false (by omega)
  have C12 := hide c12
  have K1 : Hid (55296 ≤ x) := hide (by omega)
  clear c12 c1 c2
  by_cases c3 : x < 56320
  · have t3 : decide ((x : Int) < 56320) = true := decide_eq_true (by omega)
    have C3 := hide c3
    clear c3
    by_cases c4 : 3 < s.size
    · have t4 : decide ((3 : Int) < s.size) = true := decide_eq_true (by omega)
      have s2 : (2 : Int) ≤ s.size := by omega
      obtain ⟨c, d, r', hr⟩ : ∃ c d r', r = c :: d :: r' := by
        match r, hlen with
        | c :: d :: r', _ => exact ⟨c, d, r', rfl⟩
        | [c], h => simp at h; omega
        | [], h => simp at h; omega
      subst hr
      have hx2 : (s.extract 2 s.size).data.toList = c :: d :: r' := by rw [extract_end, hl]; rfl
      have HN2 := hide (fun (w : World) => number_list (s.extract 2 s.size) big c d r' w (by have := extract_size_le s 2 s.size; unfold maxLen; omega) hx2)
      have hlt2 := num_lt big c d
      obtain ⟨y, hy⟩ : ∃ y, y = num big c d := ⟨_, rfl⟩
      rw [← HZ.out, ← hy] at HN2
      rw [← hy] at hlt2
      have HY := hide hy
      clear hy hx2 hl c4
      by_cases c5 : 56320 ≤ y ∧ y < 57344
      · have HV := hide (fsV_of (big := big) (l := a :: b :: c :: d :: r') (z := pairV x y) (n := 4) (by rw [fsS, ← HX.out, if_neg C12.out, if_pos C3.out, fsT, ← HY.out, if_pos c5]))
        have t5 : decide ((56320 : Int) ≤ y) = true := decide_eq_true (by omega)
        have t6 : decide ((y : Int) < 57344) = true := decide_eq_true (by omega)
        have k1 := K1.out
        have k3 := C3.out
        obtain ⟨k5, k6⟩ := c5
        clear hlen
        go_enter Tryz.func143, Tryz.ntmps143
        go_wp2_with fail
        refine (HN.out _).mono ?_
        rintro e w1 ⟨rfl, hb1⟩
        go_wp2_with fail
        refine (HN2.out _).mono ?_
        rintro e w2 ⟨rfl, hb2⟩
        go_upto_region 7 with (fail)
        clear t1 t2 t3 t4 t5 t6 hlt hlt2 h2 s2 hs'
        go_wp2_with fail
        go_ret2
        refine ⟨?_, hb1.trans (hb2.mono hb1.size)⟩
        rw [HV.out]
        show Ending.returned (.tuple #[.int .i32 _, .int .i64 _]) = _
        congr 5
        unfold pairV; omega
      · have HV := hide (fsV_of (big := big) (l := a :: b :: c :: d :: r') (z := 65533) (n := 2) (by rw [fsS, ← HX.out, if_neg C12.out, if_pos C3.out, fsT, ← HY.out, if_neg c5]))
        have c6 : y < 56320 ∨ (56320 ≤ y ∧ 57344 ≤ y) := by omega
        have c7 : decide ((56320 : Int) ≤ y) = false ∨ (decide ((56320 : Int) ≤ y) = true ∧ decide ((y : Int) < 57344) = false) := by
          rcases c6 with c | ⟨c, c'⟩
          · exact .inl (decide_eq_false (by omega))
          · exact .inr ⟨decide_eq_true (by omega), decide_eq_false (by omega)⟩
        clear c5 c6
        rcases c7 with t5 | ⟨t5, t6⟩
        all_goals
          clear hlen
          go_enter Tryz.func143, Tryz.ntmps143
          go_wp2_with fail
          refine (HN.out _).mono ?_
          rintro e w1 ⟨rfl, hb1⟩
          go_wp2_with fail
          refine (HN2.out _).mono ?_
          rintro e w2 ⟨rfl, hb2⟩
          go_wp2_with fail
          go_ret2
          exact ⟨by rw [HV.out]; rfl, hb1.trans (hb2.mono hb1.size)⟩
    · have HV := hide (fsV_of (big := big) (l := a :: b :: r) (z := 65533) (n := 2) (by
        rw [fsS, ← HX.out, if_neg C12.out, if_pos C3.out]
        match r, hlen with
        | [], _ => rfl
        | [_], _ => rfl
        | _ :: _ :: r', h => simp at h; omega))
      have t4 : decide ((3 : Int) < s.size) = false := decide_eq_false (by omega)
      clear c4
      clear hlen
      go_enter Tryz.func143, Tryz.ntmps143
      go_wp2_with fail
      refine (HN.out _).mono ?_
      rintro e w1 ⟨rfl, hb1⟩
      go_wp2_with fail
      go_ret2
      exact ⟨by rw [HV.out]; rfl, hb1⟩
  · have HV := hide (fsV_of (big := big) (l := a :: b :: r) (z := 65533) (n := 2) (by rw [fsS, ← HX.out, if_neg C12.out, if_neg c3]))
    have t3 : decide ((x : Int) < 56320) = false := decide_eq_false (by omega)
    clear c3
    clear hlen
    go_enter Tryz.func143, Tryz.ntmps143
    go_wp2_with fail
    refine (HN.out _).mono ?_
    rintro e w1 ⟨rfl, hb1⟩
    go_wp2_with fail
    go_ret2
    exact ⟨by rw [HV.out]; rfl, hb1⟩

def szOf4 : Value → Nat
  | .string t => t.size
  | _ => 0
set_option maxRecDepth 100000 in
set_option maxHeartbeats 2000000 in
theorem fromPairs_any (s : ByteArray) (big : Bool) (w : World) (hs : s.size ≤ 1048576) :
    Calls Tryz.prog 127 #[.string s, .int .i64 (hiAt big)] w fun e w' => e = .returned (.string (str (pairsL big s.data.toList))) ∧ Below w.heap.size w w' := by
  have HFS := hide (fun (t : ByteArray) (w : World) (ht : t.size ≤ maxLen) (h2 : 1 < t.size) => firstSign_any t big w ht h2)
  obtain ⟨z, hz⟩ : ∃ z, z = hiAt big := ⟨_, rfl⟩
  rw [← hz] at HFS ⊢
  clear hz
  go_enter Tryz.func127, Tryz.ntmps127
  go_wp2_with (refine wpList_buf_make rfl _ _ rfl w.heap.size w (Below.refl _ _) (Nat.le_refl _) s.size s.size rfl rfl rfl (by omega) ?_; intro v0 w0 hb0)
  go_loopw [0, 5] (fun x v wr => ∃ (t : ByteArray) (acc : List UInt8), x = .string t ∧ Buf w.heap.size v acc w wr ∧ acc.length + 3 * t.size ≤ 3 * s.size ∧ acc ++ pairsL big t.data.toList = pairsL big s.data.toList) (fun x _ _ => szOf4 x)
  case atStart => exact ⟨s, [], rfl, hb0, by simp, by simp⟩
  case round =>
    obtain ⟨t, acc, rfl, hb, hacc, hd⟩ := hrel
    have HB := hide hb
    clear hb
    by_cases hlt : 1 < t.size
    · obtain ⟨p1, p2, p3, p4, p5⟩ := pairs_step big t.data.toList (by rw [toList_length]; omega)
      have p6 := runeL_length (fsS big t.data.toList).1
      rw [p1, ← List.append_assoc] at hd
      rw [toList_length] at p3
      have hF : fsV big t.data.toList = .tuple #[.int .i32 (fsS big t.data.toList).1, .int .i64 (fsS big t.data.toList).2] := rfl
      generalize fsS big t.data.toList = st at hd hF p2 p3 p4 p5 p6
      obtain ⟨r, n⟩ := st
      simp only at hd hF p2 p3 p4 p5 p6
      have p7 : (runeL r).length ≤ 3 * n := by omega
      have p8 : 2 ≤ n := by omega
      have HR := hide hd
      have HF := hide hF
      clear hd hF p1 p2 p6
      go_wp2_with fail
      refine (HFS.out t _ (by unfold maxLen; omega) hlt).mono ?_
      rintro e w1 ⟨rfl, hb1⟩
      rw [HF.out]
      have HB1 := hide (HB.out.kept hb1)
      go_wp2_with fail
      refine (appendRune_any w.heap.size u5 acc w _ HB1.out r (by omega) (by omega) (by omega)).mono ?_
      rintro e w2 ⟨v2, rfl, hb2, _⟩
      have HB2 := hide hb2
      clear hb2
      go_wp2_with fail
      go_roundw
      case rel => exact ⟨t.extract n t.size, acc ++ _, rfl, HB2.out, by rw [ByteArray.size_extract, List.length_append]; omega, by rw [extract_end]; exact HR.out⟩
      case measure => simp [szOf4]; omega
    · have hl := toList_length t
      have hp := pairs_short big t.data.toList (by omega)
      rw [hl] at hp
      by_cases h1 : 0 < t.size
      · rw [hp, if_pos (by omega)] at hd
        have HR := hide hd
        clear hd hp hl
        go_wp2_with fail
        refine (appendRune_any w.heap.size u5 acc w _ HB.out 65533 (by omega) (by omega) (by omega)).mono ?_
        rintro e w2 ⟨v2, rfl, hb2, _⟩
        rw [runeL_bad'] at hb2
        have HB2 := hide hb2
        have hcv := hb2.convert
        clear hb2
        go_wp2_with fail
        go_ret
        exact ⟨ret_str (by rw [HR.out]), HB2.out.below⟩
      · rw [hp, if_neg (by omega), List.append_nil] at hd
        have HR := hide hd
        have hcv := HB.out.convert
        clear hd hp hl
        go_wp2_with fail
        go_ret
        exact ⟨ret_str (by rw [HR.out]), HB.out.below⟩
end Go.Proofs.YtienjpelmbldpaaGreatDoor

/- WALK of chars.Decode. No statement is proved here. -/
namespace Go.Proofs.YtienjpelmbldpaaGreatDoor
open Go.RowKit
set_option linter.unusedVariables false
set_option linter.unusedSimpArgs false

/-- what Decode answers -/
def decV (k : Nat) (l : List UInt8) : Value := .tuple #[.string (str (decodeL k l)), .bool (decide (0 < k))]
set_option maxHeartbeats 2000000 in
theorem charsDecode_any (label s : ByteArray) (w : World) (hl : label.size ≤ 70368744177664) (hs : s.size ≤ 1048576) (hT : Tab w) :
    Calls Tryz.prog 95 #[.string label, .string s] w fun e w' => e = .returned (decV (kindL label.data.toList) s.data.toList) ∧ Below w.heap.size w w' := by
  have HT := hide hT
  have H0 := hide hT.lt
  clear hT
  have HK := hide (fun (w : World) => known_any label w hl)
  have hk5 := kind_lt label.data.toList
  generalize kindL label.data.toList = k at HK hk5
  have hk : k = 0 ∨ k = 1 ∨ k = 2 ∨ k = 3 ∨ k = 4 := by omega
  clear hk5
  have KV0 : Hid (knownV 0 = .tuple #[.string ⟨#[]⟩, .bool false]) := hide rfl
  have KV1 : Hid (knownV 1 = .tuple #[.string ⟨#[117, 116, 102, 45, 56]⟩, .bool true]) := hide rfl
  have KV2 : Hid (knownV 2 = .tuple #[.string ⟨#[119, 105, 110, 100, 111, 119, 115, 45, 49, 50, 53, 50]⟩, .bool true]) := hide rfl
  have KV3 : Hid (knownV 3 = .tuple #[.string ⟨#[117, 116, 102, 45, 49, 54, 108, 101]⟩, .bool true]) := hide rfl
  have KV4 : Hid (knownV 4 = .tuple #[.string ⟨#[117, 116, 102, 45, 49, 54, 98, 101]⟩, .bool true]) := hide rfl
  have P3 := hide (fun (w : World) => fromPairs_any s false w hs)
  have P4 := hide (fun (w : World) => fromPairs_any s true w hs)
  rw [show hiAt false = 1 from rfl] at P3
  rw [show hiAt true = 0 from rfl] at P4
  rcases hk with rfl | rfl | rfl | rfl | rfl
  · go_enter Tryz.func95, Tryz.ntmps95
    go_wp2_with fail
    refine (HK.out _).mono ?_
    rintro e w1 ⟨rfl, hb1⟩
    rw [KV0.out]
    go_wp2_with fail
    refine (valid_any s _ hs).mono ?_
    rintro e w2 ⟨rfl, hb2⟩
    go_wp2_with fail
    go_ret2
    exact ⟨rfl, hb1.trans (hb2.mono hb1.size)⟩
  · go_enter Tryz.func95, Tryz.ntmps95
    go_wp2_with fail
    refine (HK.out _).mono ?_
    rintro e w1 ⟨rfl, hb1⟩
    rw [KV1.out]
    go_wp2_with fail
    refine (valid_any s _ hs).mono ?_
    rintro e w2 ⟨rfl, hb2⟩
    go_wp2_with fail
    go_ret2
    exact ⟨rfl, hb1.trans (hb2.mono hb1.size)⟩
  · go_enter Tryz.func95, Tryz.ntmps95
    go_wp2_with fail
    refine (HK.out _).mono ?_
    rintro e w1 ⟨rfl, hb1⟩
    rw [KV2.out]
    go_wp2_with fail
    refine (fromWindows_any s _ hs (HT.out.below hb1 H0.out)).mono ?_
    rintro e w2 ⟨rfl, hb2⟩
    go_wp2_with fail
    go_ret2
    exact ⟨rfl, hb1.trans (hb2.mono hb1.size)⟩
  · go_enter Tryz.func95, Tryz.ntmps95
    go_wp2_with fail
    refine (HK.out _).mono ?_
    rintro e w1 ⟨rfl, hb1⟩
    rw [KV3.out]
    go_wp2_with fail
    refine (P3.out _).mono ?_
    rintro e w2 ⟨rfl, hb2⟩
    go_wp2_with fail
    go_ret2
    exact ⟨rfl, hb1.trans (hb2.mono hb1.size)⟩
  · go_enter Tryz.func95, Tryz.ntmps95
    go_wp2_with fail
    refine (HK.out _).mono ?_
    rintro e w1 ⟨rfl, hb1⟩
    rw [KV4.out]
    go_wp2_with fail
    refine (P4.out _).mono ?_
    rintro e w2 ⟨rfl, hb2⟩
    go_wp2_with fail
    go_ret2
    exact ⟨rfl, hb1.trans (hb2.mono hb1.size)⟩
end Go.Proofs.YtienjpelmbldpaaGreatDoor

/- WALKS of word.labelOf, bytesOf, One. No statement is proved here. -/
namespace Go.Proofs.YtienjpelmbldpaaGreatDoor
open Go.RowKit
set_option linter.unusedVariables false
set_option linter.unusedSimpArgs false
set_option maxRecDepth 100000

theorem hasAny_ws (l : List UInt8) : hasAny [32, 9, 10, 13] l = !noWs l := by
  unfold hasAny noWs
  induction l with
  | nil => rfl
  | cons a r ih =>
    have : ∀ c : UInt8, [32, 9, 10, 13].contains c = wsB c := u8_all (p := fun c => [32, 9, 10, 13].contains c = wsB c) (by decide +kernel)
    rw [List.any_cons, List.all_cons, ih, this, Bool.not_and, Bool.not_not]
theorem containsWs_any (s : ByteArray) (w : World) (hs : s.size ≤ 1048576) :
    Calls Tryz.prog 51 #[.string s, .string ⟨#[32, 9, 10, 13]⟩] w fun e w' => e = .returned (.bool (!noWs s.data.toList)) ∧ Below w.heap.size w w' :=
  (containsAny_any s ⟨#[32, 9, 10, 13]⟩ w (by decide) (by decide) hs (by decide)).mono fun e w' ⟨he, hb⟩ => ⟨by rw [he, ← hasAny_ws], hb⟩
theorem prefix_take (l p : List UInt8) : Lib.hasPrefix l p = decide (l.take p.length = p) := by
  unfold Lib.hasPrefix
  cases h : p.isPrefixOf l with
  | true => exact (decide_eq_true (List.prefix_iff_eq_take.1 (List.isPrefixOf_iff_prefix.1 h)).symm).symm
  | false =>
    refine (decide_eq_false fun e => ?_).symm
    have := List.isPrefixOf_iff_prefix.2 (List.prefix_iff_eq_take.2 e.symm)
    rw [h] at this; cases this
theorem cutPrefix_yes (s : ByteArray) (p : List UInt8) (w : World) (h : s.data.toList.take p.length = p) :
    Calls Tryz.prog 146 #[.string s, .string (str p)] w fun e w' => e = .returned (.tuple #[.string (str (s.data.toList.drop p.length)), .bool true]) ∧ w = w' :=
  (Tryz.strings_CutPrefix s (str p) w).mono fun e w' ⟨he, hw⟩ => ⟨by
    have e1 : Lib.hasPrefix s.data.toList p = true := by rw [prefix_take]; exact decide_eq_true h
    rw [he, str_toList, Lib.trimPrefix, e1]; rfl, hw.symm⟩
theorem cutPrefix_no (s : ByteArray) (p : List UInt8) (w : World) (h : s.data.toList.take p.length ≠ p) :
    Calls Tryz.prog 146 #[.string s, .string (str p)] w fun e w' => e = .returned (.tuple #[.string s, .bool false]) ∧ w = w' :=
  (Tryz.strings_CutPrefix s (str p) w).mono fun e w' ⟨he, hw⟩ => ⟨by
    have e1 : Lib.hasPrefix s.data.toList p = false := by rw [prefix_take]; exact decide_eq_false h
    rw [he, str_toList, Lib.trimPrefix, e1]
    show Ending.returned (.tuple #[.string (str s.data.toList), .bool false]) = _
    rw [str_of], hw.symm⟩

/-- what labelOf answers -/
def labelV (l : List UInt8) : Value := if l.length ≤ 40 ∧ noWs l = true then .tuple #[.string (str (beforeC 42 l)), .bool (decide (0 < kindL (beforeC 42 l)))] else .tuple #[.string ⟨#[]⟩, .bool false]
theorem labelV_no {l : List UInt8} (h : labelK l = 0) : ∃ y, labelV l = .tuple #[.string y, .bool false] := by
  unfold labelV
  unfold labelK at h
  split
  · rename_i hc
    rw [if_pos hc] at h
    exact ⟨_, by rw [h]; rfl⟩
  · exact ⟨_, rfl⟩
theorem labelV_yes {l : List UInt8} (h : labelK l ≠ 0) : labelV l = .tuple #[.string (str (beforeC 42 l)), .bool true] ∧ kindL (beforeC 42 l) = labelK l := by
  unfold labelV
  unfold labelK at h ⊢
  by_cases hc : l.length ≤ 40 ∧ noWs l = true
  · rw [if_pos hc] at h
    rw [if_pos hc, if_pos hc]
    exact ⟨by rw [decide_eq_true (by omega)], rfl⟩
  · rw [if_neg hc] at h
    exact absurd rfl h

set_option maxHeartbeats 1000000 in
theorem labelOf_any (s : ByteArray) (w : World) (hs : s.size ≤ 1048576) :
    Calls Tryz.prog 147 #[.string s] w fun e w' => e = .returned (labelV s.data.toList) ∧ Below w.heap.size w w' := by
  have hl := toList_length s
  by_cases h40 : 40 < s.size
  · have HV : Hid (labelV s.data.toList = .tuple #[.string ⟨#[]⟩, .bool false]) := hide (if_neg (fun h => by have := h.1; omega))
    have t0 : decide ((40 : Int) < s.size) = true := decide_eq_true (by omega)
    clear hl h40
    go_enter Tryz.func147, Tryz.ntmps147
    go_wp2_with fail
    go_ret2
    exact ⟨by rw [HV.out]; rfl, Below.refl _ _⟩
  · have t0 : decide ((40 : Int) < s.size) = false := decide_eq_false (by omega)
    cases hw : noWs s.data.toList with
    | false =>
      have HV : Hid (labelV s.data.toList = .tuple #[.string ⟨#[]⟩, .bool false]) := hide (if_neg (fun h => by rw [hw] at h; exact absurd h.2 (by decide)))
      have HW := hide hw
      clear hl h40 hw
      go_enter Tryz.func147, Tryz.ntmps147
      go_wp2_with fail
      refine (containsWs_any _ _ hs).mono ?_
      rintro e w1 ⟨rfl, hb1⟩
      rw [HW.out]
      go_wp2_with fail
      go_ret2
      exact ⟨by rw [HV.out]; rfl, hb1⟩
    | true =>
      have HV : Hid (labelV s.data.toList = .tuple #[.string (str (beforeC 42 s.data.toList)), .bool (decide (0 < kindL (beforeC 42 s.data.toList)))]) := hide (if_pos ⟨by omega, hw⟩)
      have HW := hide hw
      have HZ := hide (show (str (beforeC 42 s.data.toList)).size ≤ 70368744177664 by rw [str_size]; have := beforeC_le 42 s.data.toList; omega)
      clear hl h40 hw
      go_enter Tryz.func147, Tryz.ntmps147
      go_wp2_with fail
      refine (containsWs_any _ _ hs).mono ?_
      rintro e w1 ⟨rfl, hb1⟩
      rw [HW.out]
      go_wp2_with fail
      refine (strCut_any _ 42 _ (by omega)).mono ?_
      rintro e w2 ⟨rfl, hb2⟩
      unfold cutV
      go_wp2_with fail
      refine (known_any _ _ HZ.out).mono ?_
      rintro e w3 ⟨rfl, hb3⟩
      rw [str_toList]
      unfold knownV
      go_wp2_with fail
      go_ret2
      have k2 := hb1.trans (hb2.mono hb1.size)
      exact ⟨by rw [HV.out]; rfl, k2.trans (hb3.mono k2.size)⟩

/-- what bytesOf answers -/
def bytesV : Option (List UInt8) → Value
  | some b => .tuple #[.string (str b), .bool true]
  | none => .tuple #[.string ⟨#[]⟩, .bool false]
theorem listE {x : ByteArray} {l : List UInt8} (h : x.data.toList = l) : (x.toList == l) = true := by
  rw [bytes_list, h]; exact beq_self_eq_true l
theorem listN {x : ByteArray} {l : List UInt8} (h : x.data.toList ≠ l) : (x.toList == l) = false := by
  rw [bytes_list]; exact beq_eq_false_iff_ne.2 h
set_option maxHeartbeats 1000000 in
theorem bytesOf_any (x t : ByteArray) (w : World) (ht : t.size ≤ 1048576) :
    Calls Tryz.prog 148 #[.string x, .string t] w fun e w' => e = .returned (bytesV (bytesO x.data.toList t.data.toList)) ∧ Below w.heap.size w w' := by
  cases hw : noWs t.data.toList with
  | false =>
    have HV : Hid (bytesO x.data.toList t.data.toList = none) := hide (if_neg (by rw [hw]; decide))
    have HW := hide hw
    clear hw
    go_enter Tryz.func148, Tryz.ntmps148
    go_wp2_with fail
    refine (containsWs_any _ _ ht).mono ?_
    rintro e w1 ⟨rfl, hb1⟩
    rw [HW.out]
    go_wp2_with fail
    go_ret2
    exact ⟨by rw [HV.out]; rfl, hb1⟩
  | true =>
    have HW := hide hw
    have h0 : bytesO x.data.toList t.data.toList = if x.data.toList = [66] ∨ x.data.toList = [98] then some (decB t.data.toList) else if x.data.toList = [81] ∨ x.data.toList = [113] then some (qdec t.data.toList) else none := if_pos hw
    clear hw
    by_cases h66 : x.data.toList = [66]
    · have HV : Hid (bytesO x.data.toList t.data.toList = some (decB t.data.toList)) := hide (by rw [h0, if_pos (.inl h66)])
      have t1 := listE h66
      clear h0 h66
      go_enter Tryz.func148, Tryz.ntmps148
      go_wp2_with fail
      refine (containsWs_any _ _ ht).mono ?_
      rintro e w1 ⟨rfl, hb1⟩
      rw [HW.out]
      go_wp2_with fail
      refine (decode64_any _ _ ht).mono ?_
      rintro e w2 ⟨rfl, hb2⟩
      go_wp2_with fail
      go_ret2
      exact ⟨by rw [HV.out]; rfl, hb1.trans (hb2.mono hb1.size)⟩
    have t1 := listN h66
    by_cases h98 : x.data.toList = [98]
    · have HV : Hid (bytesO x.data.toList t.data.toList = some (decB t.data.toList)) := hide (by rw [h0, if_pos (.inr h98)])
      have t2 := listE h98
      clear h0 h66 h98
      go_enter Tryz.func148, Tryz.ntmps148
      go_wp2_with fail
      refine (containsWs_any _ _ ht).mono ?_
      rintro e w1 ⟨rfl, hb1⟩
      rw [HW.out]
      go_wp2_with fail
      refine (decode64_any _ _ ht).mono ?_
      rintro e w2 ⟨rfl, hb2⟩
      go_wp2_with fail
      go_ret2
      exact ⟨by rw [HV.out]; rfl, hb1.trans (hb2.mono hb1.size)⟩
    have t2 := listN h98
    rw [if_neg (fun h => h.elim h66 h98)] at h0
    by_cases h81 : x.data.toList = [81]
    · have HV : Hid (bytesO x.data.toList t.data.toList = some (qdec t.data.toList)) := hide (by rw [h0, if_pos (.inl h81)])
      have t3 := listE h81
      clear h0 h66 h98 h81
      go_enter Tryz.func148, Tryz.ntmps148
      go_wp2_with fail
      refine (containsWs_any _ _ ht).mono ?_
      rintro e w1 ⟨rfl, hb1⟩
      rw [HW.out]
      go_wp2_with fail
      refine (fromQ_any _ _ (by omega)).mono ?_
      rintro e w2 ⟨rfl, hb2⟩
      go_wp2_with fail
      go_ret2
      exact ⟨by rw [HV.out]; rfl, hb1.trans (hb2.mono hb1.size)⟩
    have t3 := listN h81
    by_cases h113 : x.data.toList = [113]
    · have HV : Hid (bytesO x.data.toList t.data.toList = some (qdec t.data.toList)) := hide (by rw [h0, if_pos (.inr h113)])
      have t4 := listE h113
      clear h0 h66 h98 h81 h113
      go_enter Tryz.func148, Tryz.ntmps148
      go_wp2_with fail
      refine (containsWs_any _ _ ht).mono ?_
      rintro e w1 ⟨rfl, hb1⟩
      rw [HW.out]
      go_wp2_with fail
      refine (fromQ_any _ _ (by omega)).mono ?_
      rintro e w2 ⟨rfl, hb2⟩
      go_wp2_with fail
      go_ret2
      exact ⟨by rw [HV.out]; rfl, hb1.trans (hb2.mono hb1.size)⟩
    have t4 := listN h113
    have HV : Hid (bytesO x.data.toList t.data.toList = none) := hide (by rw [h0, if_neg (fun h => h.elim h81 h113)])
    clear h0 h66 h98 h81 h113
    go_enter Tryz.func148, Tryz.ntmps148
    go_wp2_with fail
    refine (containsWs_any _ _ ht).mono ?_
    rintro e w1 ⟨rfl, hb1⟩
    rw [HW.out]
    go_wp2_with fail
    go_ret2
    exact ⟨by rw [HV.out]; rfl, hb1⟩
end Go.Proofs.YtienjpelmbldpaaGreatDoor

