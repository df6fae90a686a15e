/- WALKS of the closures of package b64 that append a letter and a byte. No statement is proved here. -/
import Derived.Test.YtgkpennhpggaaaaDoorB64Plain
namespace Go.Proofs.YtgkpennhpggaaaaDoor
open Go.RowKit
set_option linter.unusedVariables false
set_option maxRecDepth 100000
set_option linter.unusedSimpArgs false

/-- the row l lies in the box bo -/
def Out (B bo : Nat) (l : List UInt8) (W0 w : World) : Prop := ∃ v, Box w bo 52 v ∧ Buf B v l W0 w ∧ B ≤ bo

theorem Out.below {B bo : Nat} {l : List UInt8} {W0 w : World} (h : Out B bo l W0 w) : Below B W0 w := by
  obtain ⟨v, _, h, _⟩ := h; exact h.below
/-- a store into another box -/
theorem Out.set {B bo b : Nat} {t : TypeId} {u : Value} {l : List UInt8} {W0 w : World} (h : Out B bo l W0 w) (hb : Box w b t u) (ht : t ≠ 5) (hne : b ≠ bo) (hB : B ≤ b) (x : Value) : Out B bo l W0 (w.setCell ⟨b, 0, none⟩ x) := by
  obtain ⟨v, h1, h2, h3⟩ := h
  exact ⟨v, h1.far (Ne.symm hne) x, h2.setBox hb ht hB x, h3⟩
theorem Out.alloc {B bo : Nat} {l : List UInt8} {W0 w : World} (h : Out B bo l W0 w) (o : Obj) : Out B bo l W0 (w.alloc o) := by
  obtain ⟨v, h1, h2, h3⟩ := h
  exact ⟨v, h1.alloc o, h2.alloc o, h3⟩
theorem Out.drew {B bo : Nat} {l : List UInt8} {W0 w : World} (h : Out B bo l W0 w) : Out B bo l W0 w.drew := by
  obtain ⟨v, h1, h2, h3⟩ := h
  exact ⟨v, h1.drew, h2.drew, h3⟩

set_option maxHeartbeats 1000000 in
theorem decHand_any (B bo : Nat) (l : List UInt8) (W0 w : World) (c : UInt8) (ho : Out B bo l W0 w) (hl : l.length ≤ 70368744177664) :
    Calls Tryd.prog 103 #[.int .u64 c.toNat, .pointer (some ⟨bo, 0, none⟩)] w fun e w' => e = .returned (.tuple #[]) ∧ Out B bo (l ++ [c]) W0 w' ∧ KeptBut bo w w' := by
  obtain ⟨v, hbx, hbf, hB⟩ := ho
  have hcl := byte_lt c
  have hc := hbx.cell
  have hf := hbx.free
  have HB := hide hbf
  have HX := hide hbx
  clear hbf hbx
  go_enter Tryd.func103, Tryd.ntmps103
  go_wp2_with (refine wpList_buf_byte_kept rfl _ _ rfl B v l rfl W0 w c HB.out rfl (by omega) ?_; intro v2 w2 hb2 hk2; obtain ⟨A2, n2, c2, rfl⟩ := hb2.slice; have hx2 := hk2 _ _ _ (by decide) HX.out; have hc2 := hx2.cell; have hf2 := hx2.free; have HB2 := hide hb2; have HX2 := hide hx2; have HK2 := hide hk2; clear hb2 hx2 hk2)
  go_end0
  exact ⟨rfl, ⟨_, HX2.out.set _, HB2.out.setBox HX2.out (by decide) hB _, hB⟩, (HK2.out.but bo).set _⟩

theorem letter_at (n : Nat) (h : n < (⟨#[65, 66, 67, 68, 69, 70, 71, 72, 73, 74, 75, 76, 77, 78, 79, 80, 81, 82, 83, 84, 85, 86, 87, 88, 89, 90, 97, 98, 99, 100, 101, 102, 103, 104, 105, 106, 107, 108, 109, 110, 111, 112, 113, 114, 115, 116, 117, 118, 119, 120, 121, 122, 48, 49, 50, 51, 52, 53, 54, 55, 56, 57, 43, 47]⟩ : ByteArray).size) :
    ((⟨#[65, 66, 67, 68, 69, 70, 71, 72, 73, 74, 75, 76, 77, 78, 79, 80, 81, 82, 83, 84, 85, 86, 87, 88, 89, 90, 97, 98, 99, 100, 101, 102, 103, 104, 105, 106, 107, 108, 109, 110, 111, 112, 113, 114, 115, 116, 117, 118, 119, 120, 121, 122, 48, 49, 50, 51, 52, 53, 54, 55, 56, 57, 43, 47]⟩ : ByteArray)[n]'h) = letter n := by
  have h' : n < letters64.length := h
  have e : letters64.getD n 0 = letters64[n] := by rw [List.getD_eq_getElem?_getD, List.getElem?_eq_getElem h']; rfl
  unfold letter
  rw [e]; rfl

set_option maxHeartbeats 1000000 in
theorem encHand_any (B bo : Nat) (l : List UInt8) (W0 w : World) (n : Nat) (hn : n < 64) (ho : Out B bo l W0 w) (hl : l.length ≤ 70368744177664) :
    Calls Tryd.prog 92 #[.int .u64 n, .pointer (some ⟨bo, 0, none⟩)] w fun e w' => e = .returned (.tuple #[]) ∧ Out B bo (l ++ [letter n]) W0 w' ∧ KeptBut bo w w' := by
  obtain ⟨v, hbx, hbf, hB⟩ := ho
  have hc := hbx.cell
  have hf := hbx.free
  have hi := letter_at n hn
  have hn' : (n : Int) < 64 := by omega
  obtain ⟨c, hcc⟩ : ∃ c, c = letter n := ⟨_, rfl⟩
  rw [← hcc] at hi ⊢
  clear hcc
  have HB := hide hbf
  have HX := hide hbx
  clear hbf hbx
  go_enter Tryd.func92, Tryd.ntmps92
  have hc3 := (HX.out.alloc (.cells #[.int .u8 c.toNat] 5)).cell
  go_wp2_with fail
  go_region_law (first
    | (refine step_buf_byte_kept rfl _ _ rfl B v l rfl W0 (HB.out.alloc _).drew ⟨w.heap.size, 0, none⟩ rfl c ?_ (by omega) ?_
       · show (w.alloc _).cell? _ = _
         rw [World.cell?_alloc_at _ _ _ _ rfl]
         rfl
       intro v2 w2 hb2 hk2
       obtain ⟨A2, n2, c2, rfl⟩ := hb2.slice
       have hx2 := hk2 _ _ _ (by decide) (HX.out.alloc _).drew
       have hc2 := hx2.cell
       have hf2 := hx2.free
       have HB2 := hide hb2
       have HX2 := hide hx2
       have HK2 := hide hk2
       clear hb2 hx2 hk2)
    | fail)
  all_goals
    try go_wp2_with fail
    go_end0
    exact ⟨rfl, ⟨_, HX2.out.set _, HB2.out.setBox HX2.out (by decide) hB _, hB⟩, (((HK2.out.drew).alloc _).but bo).set _⟩
end Go.Proofs.YtgkpennhpggaaaaDoor
