/- WALKS of strings.Replacer's build at link's six texts. No statement is proved here. -/
import Derived.Test.YtklbdobofclofaaGreatDoorTagS
import Derived.Deep.WholeRow
import Derived.Lib.SliceRun
namespace Go.Proofs.YtklbdobofclofaaGreatDoor
open Go.RowKit
set_option linter.unusedVariables false
set_option linter.unusedSimpArgs false
set_option maxRecDepth 100000
theorem made_three (w : World) : (Instr.makeSlice 66 (.int .i64 0) (.int .i64 3)).run Tryz.prog w = .ok (.slice (some ⟨w.heap.size, 0, none⟩) 0 3) (w.alloc (.cells #[.string ⟨#[]⟩, .string ⟨#[]⟩, .string ⟨#[]⟩] 9)) := by
  obtain ⟨i0, hi, hz0, hz1, hz2⟩ := info_parts info_str
  have h := run_make (P := Tryz.prog) w 66 9 i0 _ Tryz.underlying66 hi hz0 .i64 .i64 0 3 (by omega) (by omega) (by rw [hz2]; omega) (by omega)
  rw [hz1] at h
  rw [h]
  have e : madeCells (Value.string ByteArray.empty).cells (Int.toNat 3 * 1) = #[.string ⟨#[]⟩, .string ⟨#[]⟩, .string ⟨#[]⟩] := by
    show madeCells #[.string ByteArray.empty] 3 = _
    have e0 : Array.range 0 = (#[] : Array Nat) := by simp [Array.range]
    simp [madeCells, Array.range_succ, e0]
    rfl
  rw [e]; rfl
theorem store_rep3 (w : World) (sl : Value) (h1 : sl.oneCell' = true) : 
    (storeCells ⟨w.heap.size, 0, none⟩ (Tryz.zeroCells130.toList.set 256 sl) 0).run Tryz.prog (w.alloc (.cells Tryz.zeroCells130 130)) = .ok () (w.alloc (.cells (List.replicate 256 nilS ++ [sl]).toArray 130)) := by
  have e : Tryz.zeroCells130.toList.set 256 sl = List.replicate 256 nilS ++ [sl] := by
    rw [zero_rep, show (257 : Nat) = 256 + 1 from rfl, List.replicate_succ', List.set_append_right _ _ (by simp)]
    simp
  have hl : Tryz.zeroCells130.size = 257 := by rw [← Array.length_toList, zero_rep, List.length_replicate]
  have h := run_storeCells_new (P := Tryz.prog) w 130 Tryz.zeroCells130 (List.replicate 256 nilS ++ [sl]).toArray (by
    rw [show (List.replicate 256 nilS ++ [sl]).toArray.size = 257 by simp]; kernel_rfl) (by rw [hl]; simp) (by
    rw [List.all_toArray, List.all_append, Bool.and_eq_true]
    exact ⟨by rw [List.all_replicate]; rfl, by simp [h1]⟩)
  rw [e]
  exact h
set_option maxHeartbeats 2000000 in
theorem buildT_any (b g c : Nat) (w : World) (ho : w.cell? ⟨b, 4, none⟩ = some (.slice (some ⟨g, 0, none⟩) 6 c)) (hg : OldNewT g w) :
    Calls Tryz.prog 89 #[.pointer (some ⟨b, 0, none⟩)] w fun e w' => e = .returned (.iface 131 (.pointer (some ⟨w.heap.size + 1, 0, none⟩))) ∧ TagEnd w (w.heap.size + 1) w' := by
  obtain ⟨h0, h1, h2, h3, h4, h5⟩ := hg
  have hgl : g < w.heap.size := World.block_lt_of_cell? w _ h0
  go_enter Tryz.func89, Tryz.ntmps89
  go_wp2_with fail
  go_loop [4, 5] (fun a i => (i = .int .i64 0 ∧ a = .bool true) ∨ (i = .int .i64 2 ∧ a = .bool false) ∨ (i = .int .i64 4 ∧ a = .bool false) ∨ (i = .int .i64 6 ∧ a = .bool false)) (fun _ i => 6 - (intOf i).toNat)
  case atStart => exact .inl ⟨rfl, rfl⟩
  case round =>
    rcases hrel with ⟨rfl, rfl⟩ | ⟨rfl, rfl⟩ | ⟨rfl, rfl⟩ | ⟨rfl, rfl⟩
    · go_wp2_with fail
      exact ⟨.inr (.inl ⟨rfl, rfl⟩), by decide⟩
    · go_wp2_with fail
      exact ⟨.inr (.inr (.inl ⟨rfl, rfl⟩)), by decide⟩
    · go_wp2_with fail
      exact ⟨.inr (.inr (.inr ⟨rfl, rfl⟩)), by decide⟩
    · have hms := made_three w
      have hst := store_rep3 (w.alloc (.cells #[.string ⟨#[]⟩, .string ⟨#[]⟩, .string ⟨#[]⟩] 9)) (.slice (some ⟨w.heap.size, 0, none⟩) 0 3) rfl
      rw [World.size_alloc] at hst
      go_wp2_with fail
      go_loopw [12] (fun i wr => (i = .int .i64 4 ∧ Hid (TagSt w (w.heap.size + 1) w.heap.size nilS nilS nilS 0 ⟨#[]⟩ ⟨#[]⟩ ⟨#[]⟩ wr)) ∨
        (i = .int .i64 2 ∧ ∃ v13 : Value, Hid (EmptyV v13 ∧ TagSt w (w.heap.size + 1) w.heap.size nilS nilS v13 1 ⟨#[13]⟩ ⟨#[]⟩ ⟨#[]⟩ wr)) ∨
        (i = .int .i64 0 ∧ ∃ v10 v13 : Value, Hid (EmptyV v10 ∧ EmptyV v13 ∧ TagSt w (w.heap.size + 1) w.heap.size nilS v10 v13 2 ⟨#[13]⟩ ⟨#[10]⟩ ⟨#[]⟩ wr)) ∨
        (i = .int .i64 (-2) ∧ Hid (∃ v9 v10 v13 : Value, EmptyV v9 ∧ EmptyV v10 ∧ EmptyV v13 ∧ TagSt w (w.heap.size + 1) w.heap.size v9 v10 v13 3 ⟨#[13]⟩ ⟨#[10]⟩ ⟨#[9]⟩ wr))) (fun i _ => (intOf i + 2).toNat)
      case atStart => exact .inl ⟨rfl, hide (TagSt.start _ _ _)⟩
      case round =>
        rcases hrel with ⟨rfl, HS⟩ | ⟨rfl, v13, HS⟩ | ⟨rfl, v10, v13, HS⟩ | ⟨rfl, HS⟩
        · have HT := hide (HS.out)
          obtain ⟨B0, hR, hG, hne, hc, hf, h256, hG0, hG1, hG2, hfG⟩ := HT.out
          have h92 : wr.cell? ⟨w.heap.size + 1, ((⟨#[13]⟩ : ByteArray)[0]'(by decide)).toNat, none⟩ = some (.slice none 0 0) := hc 13 (by decide)
          have z92 : wr.frozen? ⟨w.heap.size + 1, ((⟨#[13]⟩ : ByteArray)[0]'(by decide)).toNat, none⟩ = false := hf 13
          have z256 := hf 256
          have hnil : ∀ w1, (binOp .eql 49 (.slice none 0 0) (.slice none 0 0)).run Tryz.prog w1 = .ok (.bool true) w1 := fun w1 => Go.Lib.run_eql_slice_nil w1 49 5 none 0 0 0 0 Tryz.underlying49
          have hGl : w.heap.size < wr.heap.size := World.block_lt_of_cell? wr _ hG0
          have hRl : w.heap.size + 1 < wr.heap.size := World.block_lt_of_cell? wr _ h256
          have hggl : g < wr.heap.size := Nat.lt_trans hgl hGl
          have l1 := Nat.lt_succ_of_lt hGl
          have l2 := Nat.lt_succ_of_lt l1
          have l3 := Nat.lt_succ_of_lt hRl
          have l4 := Nat.lt_succ_of_lt l3
          have hcv := conv1 wr (((⟨#[13]⟩ : ByteArray)[0]'(by decide)).toNat : Int)
          have zG0 := hfG 0
          have e2 : wr.cell? ⟨g, 4, none⟩ = some (.string ⟨#[13]⟩) := (B0.cell (p := ⟨g, 4, none⟩) hgl).trans h4
          have e3 : wr.cell? ⟨g, 5, none⟩ = some (.string ⟨#[]⟩) := (B0.cell (p := ⟨g, 5, none⟩) hgl).trans h5
          have HS1 := hide ((HT.out.setG0 ⟨#[13]⟩).setL 1)
          have e92 := strT13
          clear hc hf hfG
          go_wp2_with (refine wpList_bytes rfl _ rfl ⟨#[]⟩ rfl ?_; intro cap w5 ha; have HS5 := hide (((HS1.out.alloc _).alloc _).kept ha.below); clear ha; have k92 : w5.cell? ⟨w.heap.size + 1, ((⟨#[13]⟩ : ByteArray)[0]'(by decide)).toNat, none⟩ = some (.slice none 0 0) := HS5.out.2.2.2.2.1 13 (by decide); have y92 : w5.frozen? ⟨w.heap.size + 1, ((⟨#[13]⟩ : ByteArray)[0]'(by decide)).toNat, none⟩ = false := HS5.out.2.2.2.2.2.1 13)
          exact ⟨.inr (.inl ⟨rfl, _, hide ⟨⟨_, _, rfl⟩, HS5.out.set13 _⟩⟩), by decide⟩
        · have HT := hide (HS.out.2)
          obtain ⟨B0, hR, hG, hne, hc, hf, h256, hG0, hG1, hG2, hfG⟩ := HT.out
          have h92 : wr.cell? ⟨w.heap.size + 1, ((⟨#[10]⟩ : ByteArray)[0]'(by decide)).toNat, none⟩ = some (.slice none 0 0) := hc 10 (by decide)
          have z92 : wr.frozen? ⟨w.heap.size + 1, ((⟨#[10]⟩ : ByteArray)[0]'(by decide)).toNat, none⟩ = false := hf 10
          have z256 := hf 256
          have hnil : ∀ w1, (binOp .eql 49 (.slice none 0 0) (.slice none 0 0)).run Tryz.prog w1 = .ok (.bool true) w1 := fun w1 => Go.Lib.run_eql_slice_nil w1 49 5 none 0 0 0 0 Tryz.underlying49
          have hGl : w.heap.size < wr.heap.size := World.block_lt_of_cell? wr _ hG0
          have hRl : w.heap.size + 1 < wr.heap.size := World.block_lt_of_cell? wr _ h256
          have hggl : g < wr.heap.size := Nat.lt_trans hgl hGl
          have l1 := Nat.lt_succ_of_lt hGl
          have l2 := Nat.lt_succ_of_lt l1
          have l3 := Nat.lt_succ_of_lt hRl
          have l4 := Nat.lt_succ_of_lt l3
          have hcv := conv1 wr (((⟨#[10]⟩ : ByteArray)[0]'(by decide)).toNat : Int)
          have zG0 := hfG 1
          have e2 : wr.cell? ⟨g, 2, none⟩ = some (.string ⟨#[10]⟩) := (B0.cell (p := ⟨g, 2, none⟩) hgl).trans h2
          have e3 : wr.cell? ⟨g, 3, none⟩ = some (.string ⟨#[]⟩) := (B0.cell (p := ⟨g, 3, none⟩) hgl).trans h3
          have HS1 := hide ((HT.out.setG1 ⟨#[10]⟩).setL 2)
          have e92 := strT10
          clear hc hf hfG
          go_wp2_with (refine wpList_bytes rfl _ rfl ⟨#[]⟩ rfl ?_; intro cap w5 ha; have HS5 := hide (((HS1.out.alloc _).alloc _).kept ha.below); clear ha; have k92 : w5.cell? ⟨w.heap.size + 1, ((⟨#[10]⟩ : ByteArray)[0]'(by decide)).toNat, none⟩ = some (.slice none 0 0) := HS5.out.2.2.2.2.1 10 (by decide); have y92 : w5.frozen? ⟨w.heap.size + 1, ((⟨#[10]⟩ : ByteArray)[0]'(by decide)).toNat, none⟩ = false := HS5.out.2.2.2.2.2.1 10)
          exact ⟨.inr (.inr (.inl ⟨rfl, _, _, hide ⟨⟨_, _, rfl⟩, HS.out.1, HS5.out.set10 _⟩⟩)), by decide⟩
        · have HT := hide (HS.out.2.2)
          obtain ⟨B0, hR, hG, hne, hc, hf, h256, hG0, hG1, hG2, hfG⟩ := HT.out
          have h92 : wr.cell? ⟨w.heap.size + 1, ((⟨#[9]⟩ : ByteArray)[0]'(by decide)).toNat, none⟩ = some (.slice none 0 0) := hc 9 (by decide)
          have z92 : wr.frozen? ⟨w.heap.size + 1, ((⟨#[9]⟩ : ByteArray)[0]'(by decide)).toNat, none⟩ = false := hf 9
          have z256 := hf 256
          have hnil : ∀ w1, (binOp .eql 49 (.slice none 0 0) (.slice none 0 0)).run Tryz.prog w1 = .ok (.bool true) w1 := fun w1 => Go.Lib.run_eql_slice_nil w1 49 5 none 0 0 0 0 Tryz.underlying49
          have hGl : w.heap.size < wr.heap.size := World.block_lt_of_cell? wr _ hG0
          have hRl : w.heap.size + 1 < wr.heap.size := World.block_lt_of_cell? wr _ h256
          have hggl : g < wr.heap.size := Nat.lt_trans hgl hGl
          have l1 := Nat.lt_succ_of_lt hGl
          have l2 := Nat.lt_succ_of_lt l1
          have l3 := Nat.lt_succ_of_lt hRl
          have l4 := Nat.lt_succ_of_lt l3
          have hcv := conv1 wr (((⟨#[9]⟩ : ByteArray)[0]'(by decide)).toNat : Int)
          have zG0 := hfG 2
          have e2 : wr.cell? ⟨g, 0, none⟩ = some (.string ⟨#[9]⟩) := (B0.cell (p := ⟨g, 0, none⟩) hgl).trans h0
          have e3 : wr.cell? ⟨g, 1, none⟩ = some (.string ⟨#[]⟩) := (B0.cell (p := ⟨g, 1, none⟩) hgl).trans h1
          have HS1 := hide ((HT.out.setG2 ⟨#[9]⟩).setL 3)
          have e92 := strT9
          clear hc hf hfG
          go_wp2_with (refine wpList_bytes rfl _ rfl ⟨#[]⟩ rfl ?_; intro cap w5 ha; have HS5 := hide (((HS1.out.alloc _).alloc _).kept ha.below); clear ha; have k92 : w5.cell? ⟨w.heap.size + 1, ((⟨#[9]⟩ : ByteArray)[0]'(by decide)).toNat, none⟩ = some (.slice none 0 0) := HS5.out.2.2.2.2.1 9 (by decide); have y92 : w5.frozen? ⟨w.heap.size + 1, ((⟨#[9]⟩ : ByteArray)[0]'(by decide)).toNat, none⟩ = false := HS5.out.2.2.2.2.2.1 9)
          exact ⟨.inr (.inr (.inr ⟨rfl, hide ⟨_, _, _, ⟨_, _, rfl⟩, HS.out.1, HS.out.2.1, HS5.out.set9 _⟩⟩)), by decide⟩
        · have HE : Hid (TagEnd w (w.heap.size + 1) wr) := hide ⟨_, HS.out⟩
          go_wp2_with fail
          go_ret
          exact ⟨rfl, HE.out⟩
end Go.Proofs.YtklbdobofclofaaGreatDoor
