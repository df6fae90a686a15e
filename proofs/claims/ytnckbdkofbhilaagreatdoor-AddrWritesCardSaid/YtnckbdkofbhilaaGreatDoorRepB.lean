/- WALKS of strings.Replacer's build at quote's four texts. No statement is proved here. -/
import Derived.Test.YtnckbdkofbhilaaGreatDoorRepS
import Derived.Deep.WholeRow
import Derived.Lib.SliceRun
namespace Go.Proofs.YtnckbdkofbhilaaGreatDoor
open Go.RowKit
set_option linter.unusedVariables false
set_option linter.unusedSimpArgs false
set_option maxRecDepth 100000
theorem made_two (w : World) : (Instr.makeSlice 37 (.int .i64 0) (.int .i64 2)).run Tryz.prog w = .ok (.slice (some ⟨w.heap.size, 0, none⟩) 0 2) (w.alloc (.cells #[.string ⟨#[]⟩, .string ⟨#[]⟩] 9)) := by
  obtain ⟨i0, hi, hz0, hz1, hz2⟩ := info_parts info_str
  have h := run_make (P := Tryz.prog) w 37 9 i0 _ Tryz.underlying37 hi hz0 .i64 .i64 0 2 (by omega) (by omega) (by rw [hz2]; omega) (by omega)
  rw [hz1] at h
  rw [h]
  have e : madeCells (Value.string ByteArray.empty).cells (Int.toNat 2 * 1) = #[.string ⟨#[]⟩, .string ⟨#[]⟩] := by
    show madeCells #[.string ByteArray.empty] 2 = _
    have e0 : Array.range 0 = (#[] : Array Nat) := by simp [Array.range]
    simp [madeCells, Array.range_succ, e0]
    rfl
  rw [e]; rfl
theorem store_rep (w : World) (sl : Value) (h1 : sl.oneCell' = true) : 
    (storeCells ⟨w.heap.size, 0, none⟩ (Tryz.zeroCells153.toList.set 256 sl) 0).run Tryz.prog (w.alloc (.cells Tryz.zeroCells153 153)) = .ok () (w.alloc (.cells (List.replicate 256 nilS ++ [sl]).toArray 153)) := by
  have e : Tryz.zeroCells153.toList.set 256 sl = List.replicate 256 nilS ++ [sl] := by
    rw [zero_rep, show (257 : Nat) = 256 + 1 from rfl, List.replicate_succ', List.set_append_right _ _ (by simp)]
    simp
  have hl : Tryz.zeroCells153.size = 257 := by rw [← Array.length_toList, zero_rep, List.length_replicate]
  have h := run_storeCells_new (P := Tryz.prog) w 153 Tryz.zeroCells153 (List.replicate 256 nilS ++ [sl]).toArray (by
    rw [show (List.replicate 256 nilS ++ [sl]).toArray.size = 257 by simp]; kernel_rfl) (by rw [hl]; simp) (by
    rw [List.all_toArray, List.all_append, Bool.and_eq_true]
    exact ⟨by rw [List.all_replicate]; rfl, by simp [h1]⟩)
  rw [e]
  exact h
set_option maxHeartbeats 1600000 in
theorem build_any (b g c : Nat) (w : World) (ho : w.cell? ⟨b, 4, none⟩ = some (.slice (some ⟨g, 0, none⟩) 4 c)) (hg : OldNew g w) :
    Calls Tryz.prog 126 #[.pointer (some ⟨b, 0, none⟩)] w fun e w' => e = .returned (.iface 154 (.pointer (some ⟨w.heap.size + 1, 0, none⟩))) ∧ RepEnd w (w.heap.size + 1) w' := by
  obtain ⟨h0, h1, h2, h3⟩ := hg
  have hgl : g < w.heap.size := World.block_lt_of_cell? w _ h0
  go_enter Tryz.func126, Tryz.ntmps126
  go_wp2_with fail
  go_loop [4, 5] (fun a i => (i = .int .i64 0 ∧ a = .bool true) ∨ (i = .int .i64 2 ∧ a = .bool false) ∨ (i = .int .i64 4 ∧ a = .bool false)) (fun _ i => 4 - (intOf i).toNat)
  case atStart => exact .inl ⟨rfl, rfl⟩
  case round =>
    rcases hrel with ⟨rfl, rfl⟩ | ⟨rfl, rfl⟩ | ⟨rfl, rfl⟩
    · go_wp2_with fail
      exact ⟨.inr (.inl ⟨rfl, rfl⟩), by decide⟩
    · go_wp2_with fail
      exact ⟨.inr (.inr ⟨rfl, rfl⟩), by decide⟩
    · have hms := made_two w
      have hst := store_rep (w.alloc (.cells #[.string ⟨#[]⟩, .string ⟨#[]⟩] 9)) (.slice (some ⟨w.heap.size, 0, none⟩) 0 2) rfl
      rw [World.size_alloc] at hst
      go_wp2_with fail
      go_loopw [12] (fun i wr => (i = .int .i64 2 ∧ Hid (RepSt w (w.heap.size + 1) w.heap.size nilS nilS 0 ⟨#[]⟩ ⟨#[]⟩ wr)) ∨
        (i = .int .i64 0 ∧ ∃ g2 c2 : Nat, Hid (RepSt w (w.heap.size + 1) w.heap.size nilS (.slice (some ⟨g2, 0, none⟩) 2 c2) 1 ⟨#[92]⟩ ⟨#[]⟩ wr ∧ TwoAt wr g2 92 92 w.heap.size)) ∨
        (i = .int .i64 (-2) ∧ Hid (∃ g1 c1 g2 c2 : Nat, RepSt w (w.heap.size + 1) w.heap.size (.slice (some ⟨g1, 0, none⟩) 2 c1) (.slice (some ⟨g2, 0, none⟩) 2 c2) 2 ⟨#[92]⟩ ⟨#[34]⟩ wr ∧ TwoAt wr g1 92 34 w.heap.size ∧ TwoAt wr g2 92 92 w.heap.size))) (fun i _ => (intOf i + 2).toNat)
      case atStart => exact .inl ⟨rfl, hide (RepSt.start _ _ _)⟩
      case round =>
        rcases hrel with ⟨rfl, HS⟩ | ⟨rfl, g2, c2, HS⟩ | ⟨rfl, HS⟩
        · obtain ⟨B0, hR, hG, hne, hc, hf, h256, hG0, hG1, hfG⟩ := HS.out
          have h92 : wr.cell? ⟨w.heap.size + 1, ((⟨#[92]⟩ : ByteArray)[0]'(by decide)).toNat, none⟩ = some (.slice none 0 0) := hc 92 (by decide)
          have z92 : wr.frozen? ⟨w.heap.size + 1, ((⟨#[92]⟩ : ByteArray)[0]'(by decide)).toNat, none⟩ = false := hf 92
          have z256 := hf 256
          have hnil : ∀ w1, (binOp .eql 45 (.slice none 0 0) (.slice none 0 0)).run Tryz.prog w1 = .ok (.bool true) w1 := fun w1 => Go.Lib.run_eql_slice_nil w1 45 5 none 0 0 0 0 Tryz.underlying45
          have hGl : w.heap.size < wr.heap.size := World.block_lt_of_cell? wr _ hG0
          have hRl : w.heap.size + 1 < wr.heap.size := World.block_lt_of_cell? wr _ h256
          have hggl : g < wr.heap.size := Nat.lt_trans hgl hGl
          have l1 := Nat.lt_succ_of_lt hGl
          have l2 := Nat.lt_succ_of_lt l1
          have l3 := Nat.lt_succ_of_lt hRl
          have l4 := Nat.lt_succ_of_lt l3
          have hcv := conv1 wr (((⟨#[92]⟩ : ByteArray)[0]'(by decide)).toNat : Int)
          have zG0 := hfG 0
          have e2 : wr.cell? ⟨g, 2, none⟩ = some (.string ⟨#[92]⟩) := (B0.cell (p := ⟨g, 2, none⟩) hgl).trans h2
          have e3 : wr.cell? ⟨g, 3, none⟩ = some (.string ⟨#[92, 92]⟩) := (B0.cell (p := ⟨g, 3, none⟩) hgl).trans h3
          have HS1 := hide ((HS.out.setG0 ⟨#[92]⟩).setL 1)
          have e92 := str92
          go_wp2_with (refine wpList_bytes rfl _ rfl ⟨#[92, 92]⟩ rfl ?_; intro cap w5 ha; have HS5 := hide (((HS1.out.alloc _).alloc _).kept ha.below); have HT5 := hide (two_arr (B := w.heap.size) ha (by rw [World.size_alloc, World.size_alloc, World.size_setCell, World.size_setCell]; omega)); rw [World.size_alloc, World.size_alloc, World.size_setCell, World.size_setCell] at HT5; clear ha; have k92 : w5.cell? ⟨w.heap.size + 1, ((⟨#[92]⟩ : ByteArray)[0]'(by decide)).toNat, none⟩ = some (.slice none 0 0) := HS5.out.2.2.2.2.1 92 (by decide); have y92 : w5.frozen? ⟨w.heap.size + 1, ((⟨#[92]⟩ : ByteArray)[0]'(by decide)).toNat, none⟩ = false := HS5.out.2.2.2.2.2.1 92)
          exact ⟨.inr (.inl ⟨rfl, _, cap, hide ⟨HS5.out.set92 _, HT5.out.set (by show w.heap.size + 1 ≠ wr.heap.size + 1 + 1; omega) _⟩⟩), by decide⟩
        · obtain ⟨B0, hR, hG, hne, hc, hf, h256, hG0, hG1, hfG⟩ := HS.out.1
          have HT := hide HS.out.2
          have h92 : wr.cell? ⟨w.heap.size + 1, ((⟨#[34]⟩ : ByteArray)[0]'(by decide)).toNat, none⟩ = some (.slice none 0 0) := hc 34 (by decide)
          have z92 : wr.frozen? ⟨w.heap.size + 1, ((⟨#[34]⟩ : ByteArray)[0]'(by decide)).toNat, none⟩ = false := hf 34
          have z256 := hf 256
          have hnil : ∀ w1, (binOp .eql 45 (.slice none 0 0) (.slice none 0 0)).run Tryz.prog w1 = .ok (.bool true) w1 := fun w1 => Go.Lib.run_eql_slice_nil w1 45 5 none 0 0 0 0 Tryz.underlying45
          have hGl : w.heap.size < wr.heap.size := World.block_lt_of_cell? wr _ hG0
          have hRl : w.heap.size + 1 < wr.heap.size := World.block_lt_of_cell? wr _ h256
          have hggl : g < wr.heap.size := Nat.lt_trans hgl hGl
          have l1 := Nat.lt_succ_of_lt hGl
          have l2 := Nat.lt_succ_of_lt l1
          have l3 := Nat.lt_succ_of_lt hRl
          have l4 := Nat.lt_succ_of_lt l3
          have hcv := conv1 wr (((⟨#[34]⟩ : ByteArray)[0]'(by decide)).toNat : Int)
          have zG0 := hfG 1
          have e2 : wr.cell? ⟨g, 0, none⟩ = some (.string ⟨#[34]⟩) := (B0.cell (p := ⟨g, 0, none⟩) hgl).trans h0
          have e3 : wr.cell? ⟨g, 1, none⟩ = some (.string ⟨#[92, 34]⟩) := (B0.cell (p := ⟨g, 1, none⟩) hgl).trans h1
          have HS1 := hide ((HS.out.1.setG1 ⟨#[34]⟩).setL 2)
          have e92 := str34
          go_wp2_with (refine wpList_bytes rfl _ rfl ⟨#[92, 34]⟩ rfl ?_; intro cap w5 ha; have HS5 := hide (((HS1.out.alloc _).alloc _).kept ha.below); have HT5 := hide (two_arr (B := w.heap.size) ha (by rw [World.size_alloc, World.size_alloc, World.size_setCell, World.size_setCell]; omega)); rw [World.size_alloc, World.size_alloc, World.size_setCell, World.size_setCell] at HT5; have HT6 := hide (((((HT.out.set (p := ⟨w.heap.size, 1, none⟩) (by have := HT.out.2.2; show w.heap.size ≠ g2; omega) _).set (p := ⟨w.heap.size + 1, 256, none⟩) (by have := HT.out.2.2; show w.heap.size + 1 ≠ g2; omega) _).alloc _).alloc _).kept ha.below); clear ha; have k92 : w5.cell? ⟨w.heap.size + 1, ((⟨#[34]⟩ : ByteArray)[0]'(by decide)).toNat, none⟩ = some (.slice none 0 0) := HS5.out.2.2.2.2.1 34 (by decide); have y92 : w5.frozen? ⟨w.heap.size + 1, ((⟨#[34]⟩ : ByteArray)[0]'(by decide)).toNat, none⟩ = false := HS5.out.2.2.2.2.2.1 34)
          exact ⟨.inr (.inr ⟨rfl, hide ⟨_, cap, g2, c2, HS5.out.set34 _, HT5.out.set (by show w.heap.size + 1 ≠ wr.heap.size + 1 + 1; omega) _, HT6.out.set (by have := HT6.out.2.2; show w.heap.size + 1 ≠ g2; omega) _⟩⟩), by decide⟩
        · have HE : Hid (RepEnd w (w.heap.size + 1) wr) := hide ⟨_, HS.out⟩
          go_wp2_with fail
          go_ret
          exact ⟨rfl, HE.out⟩
end Go.Proofs.YtnckbdkofbhilaaGreatDoor
