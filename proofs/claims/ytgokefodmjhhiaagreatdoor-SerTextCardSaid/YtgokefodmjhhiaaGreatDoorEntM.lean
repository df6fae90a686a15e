/- WALK of (*strings.trieNode).add at the root, whose table has no node for the key's first byte. No statement is proved here. -/
import Derived.Test.YtgokefodmjhhiaaGreatDoorEntL
namespace Go.Proofs.YtgokefodmjhhiaaGreatDoor
open Go.RowKit
set_option linter.unusedVariables false
set_option linter.unusedSimpArgs false
set_option maxRecDepth 100000
/-- a new node hung into the table -/
def tabW (w : World) (T m : Nat) : World := (w.alloc (.cells #[.string ⟨#[]⟩, .int .i64 0, .string ⟨#[]⟩, .pointer none, .slice none 0 0] 224)).setCell ⟨T, m, none⟩ (.pointer (some ⟨w.heap.size, 0, none⟩))
theorem tab_size (w : World) (T m : Nat) (x : Value) : (w.setCell ⟨T, m, none⟩ x).heap.size = w.heap.size := by simp [World.setCell]
set_option maxHeartbeats 4000000 in
theorem add_root (G T m : Nat) (s val : ByteArray) (p : Int) (w : World) (W5 : Nat → World) (hT : T < w.heap.size) (h0 : 0 < s.size) (m5 : m < 5) (c2 : w.cell? ⟨G, 2, none⟩ = some (.string ⟨#[]⟩)) (c4 : w.cell? ⟨G, 4, none⟩ = some (.slice (some ⟨T, 0, none⟩) 5 5))
    (cm : w.cell? ⟨G, 6 + s[0].toNat, none⟩ = some (.int .u8 (m : Int))) (ct : w.cell? ⟨T, m, none⟩ = some (.pointer none)) (ft : w.frozen? ⟨T, m, none⟩ = false) (hGT : G ≠ T)
    (hin : ∀ k, Calls Tryz.prog 216 #[.pointer (some ⟨w.heap.size, 0, none⟩), .string (s.extract 1 s.size), .string val, .int .i64 p, .pointer (some ⟨G, 0, none⟩)] ((tabW w T m).drewN k) fun e w' => e = .returned (.tuple #[]) ∧ w' = W5 k) :
    Calls Tryz.prog 216 #[.pointer (some ⟨G, 0, none⟩), .string s, .string val, .int .i64 p, .pointer (some ⟨G, 0, none⟩)] w fun e w' => e = .returned (.tuple #[]) ∧ ∃ k, w' = W5 k := by
  have q1 : s.toList.isEmpty = false := by
    rw [bytes_list]
    cases e : s.data.toList with
    | nil => rw [← toList_length, e] at h0; exact absurd h0 (Nat.lt_irrefl _)
    | cons a r => rfl
  have k1 : (1 : Int) ≤ s.size := by omega
  have b1 : s[0].toNat < 256 := chr_lt _
  have b2 : (s[0].toNat : Int) < 256 := by omega
  have m5' : (m : Int) < 5 := by omega
  have lG := World.block_lt_of_cell? w _ c4
  have HX : Hid (∀ k, ((w.drewN k).alloc (.cells #[.string ⟨#[]⟩, .int .i64 0, .string ⟨#[]⟩, .pointer none, .slice none 0 0] 224)).cell? ⟨T, m, none⟩ = some (.pointer none) ∧ ((w.drewN k).alloc (.cells #[.string ⟨#[]⟩, .int .i64 0, .string ⟨#[]⟩, .pointer none, .slice none 0 0] 224)).frozen? ⟨T, m, none⟩ = false ∧ ((w.drewN k).alloc (.cells #[.string ⟨#[]⟩, .int .i64 0, .string ⟨#[]⟩, .pointer none, .slice none 0 0] 224)).cell? ⟨G, 4, none⟩ = some (.slice (some ⟨T, 0, none⟩) 5 5)) := hide fun k =>
    ⟨(World.cell?_alloc_past _ _ _ (show T < (w.drewN k).heap.size from hT)).trans ct, (World.frozen?_alloc_past _ _ _ (show T < (w.drewN k).heap.size from hT)).trans ft, (World.cell?_alloc_past _ _ _ (show G < (w.drewN k).heap.size from lG)).trans c4⟩
  have HIN := hide hin
  clear hin
  go_enter Tryz.func216, Tryz.ntmps216
  go_wp2_with fail
  go_quiet (fail)
  obtain ⟨x1, x2, x3⟩ := HX.out nq
  go_wp2_with fail
  have hTG : ¬T = G := fun e => hGT e.symm
  go_region_with (go_at_call 216; refine (HIN.out (nq + 1)).mono ?_; rintro e w5 ⟨rfl, rfl⟩)
  all_goals
    try go_wp2_with fail
    go_end0
    exact ⟨rfl, _, rfl⟩
end Go.Proofs.YtgokefodmjhhiaaGreatDoor
