/- WALK of addr.unpaired. No statement is proved here. -/
import Derived.Test.YtnckbdkofbhilaaGreatDoorBaseM
namespace Go.Proofs.YtnckbdkofbhilaaGreatDoor
open Go.RowKit
set_option linter.unusedVariables false
set_option linter.unusedSimpArgs false
set_option maxRecDepth 100000
/-- a text without each `\` that belongs to a byte behind it -/
def unpairL : List UInt8 → List UInt8
  | [] => []
  | [c] => [c]
  | c :: d :: r => if c = 92 then d :: unpairL r else c :: unpairL (d :: r)
theorem unpairL_pair (d : UInt8) (r : List UInt8) : unpairL (92 :: d :: r) = d :: unpairL r := by rw [unpairL, if_pos rfl]
theorem unpairL_one (c : UInt8) : unpairL [c] = [c] := by rw [unpairL]
theorem unpairL_other (c : UInt8) (r : List UInt8) (h : c ≠ 92) : unpairL (c :: r) = c :: unpairL r := by
  cases r with
  | nil => rw [unpairL, unpairL]
  | cons d r => rw [unpairL, if_neg h]
theorem dropL_cons (l : List UInt8) (k : Nat) (h : k < l.length) : l.drop k = l[k] :: l.drop (k + 1) := List.drop_eq_getElem_cons h
set_option maxHeartbeats 1600000 in
theorem unpaired_row (g n cap : Nat) (l : List UInt8) (w : World) (hn : l.length = n) (hg : g < w.heap.size) (hc : ∀ j (h : j < l.length), w.cell? ⟨g, j, none⟩ = some (.int .u8 l[j].toNat)) (hs : n ≤ 1048576) :
    Calls Tryz.prog 105 #[.slice (some ⟨g, 0, none⟩) n cap] w fun e w' => e = .returned (.string (str (unpairL l))) ∧ Below w.heap.size w w' := by
  have HG := hide hg
  have HC := hide hc
  clear hg hc
  go_enter Tryz.func105, Tryz.ntmps105
  go_wp2_with (refine wpList_buf_make rfl _ _ rfl w.heap.size w (Below.refl _ _) (Nat.le_refl _) n n rfl rfl rfl (by omega) ?_; intro v0 w0 hb0)
  go_loopw [3, 4] (fun o i wr => ∃ (k : Nat) (acc : List UInt8), k ≤ n ∧ i = .int .i64 k ∧ acc.length ≤ k ∧ Hid (Buf w.heap.size o acc w wr) ∧ Hid (acc ++ unpairL (l.drop k) = unpairL l)) (fun _ i _ => n - (intOf i).toNat)
  case atStart => exact ⟨0, [], Nat.zero_le _, rfl, Nat.le_refl _, hb0, rfl⟩
  case round =>
    obtain ⟨k, acc, hk, rfl, hal, HB, HE⟩ := hrel
    by_cases hlt : k < n
    · have hl : k < l.length := by omega
      have c1 : wr.cell? ⟨g, k, none⟩ = some (.int .u8 l[k].toNat) := (World.cell?_of_block (w := w) (HB.out.below.block g HG.out)).trans (HC.out k hl)
      have i0 : (k : Int) < n := by omega
      have w1 : IntKind.i64.wrap ((k : Int) + 1) = (k : Int) + 1 := IntWalk.i64_in _ (by omega)
      have w2 : IntKind.i64.wrap ((k : Int) + 1 + 1) = (k : Int) + 1 + 1 := IntWalk.i64_in _ (by omega)
      have HAL : Hid (acc.length + 1 ≤ 140737488355328) := hide (by omega)
      have hd := dropL_cons l k hl
      by_cases e1 : l[k] = 92
      · have t1 : ((l[k].toNat : Int) == 92) = true := tT 92 e1 (by decide)
        by_cases h2 : k + 1 < n
        · have hl2 : k + 1 < l.length := by omega
          have c2 : wr.cell? ⟨g, k + 1, none⟩ = some (.int .u8 l[k + 1].toNat) := (World.cell?_of_block (w := w) (HB.out.below.block g HG.out)).trans (HC.out (k + 1) hl2)
          have i1 : (k : Int) + 1 < n := by omega
          have i2 : (0 : Int) ≤ (k : Int) + 1 := by omega
          have n1 : ((k : Int) + 1).toNat = k + 1 := by omega
          have HN : Hid ((acc ++ [l[k + 1]]) ++ unpairL (l.drop (k + 2)) = unpairL l) := hide (by rw [← HE.out, hd, dropL_cons l (k + 1) hl2, e1, unpairL_pair]; simp)
          clear e1 hd
          go_wp2_with (refine wpList_buf_byte rfl _ _ rfl w.heap.size u3 acc rfl w wr (l[k + 1]) HB.out rfl HAL.out ?_; intro v4 w4 hb4; have HB4 := hide hb4; clear hb4)
          go_roundw
          case rel => exact ⟨k + 2, acc ++ [l[k + 1]], by omega, by go_num, by simp; omega, HB4, HN⟩
          case measure => simp [intOf]; omega
        · have hk2 : k + 1 = n := by omega
          have i1 : decide ((k : Int) + 1 < n) = false := decide_eq_false (by omega)
          have HN : Hid ((acc ++ [l[k]]) ++ unpairL (l.drop (k + 1)) = unpairL l) := hide (by rw [← HE.out, hd, List.drop_eq_nil_of_le (by omega : l.length ≤ k + 1), unpairL_one, unpairL]; simp)
          clear e1 hd h2
          go_wp2_with (refine wpList_buf_byte rfl _ _ rfl w.heap.size u3 acc rfl w wr (l[k]) HB.out rfl HAL.out ?_; intro v4 w4 hb4; have HB4 := hide hb4; clear hb4)
          go_roundw
          case rel => exact ⟨k + 1, acc ++ [l[k]], by omega, by go_num, by simp; omega, HB4, HN⟩
          case measure => simp [intOf]; omega
      · have t1 : ((l[k].toNat : Int) == 92) = false := tF 92 e1 (by decide)
        have HN : Hid ((acc ++ [l[k]]) ++ unpairL (l.drop (k + 1)) = unpairL l) := hide (by rw [← HE.out, hd, unpairL_other _ _ e1]; simp)
        clear e1 hd
        go_wp2_with (refine wpList_buf_byte rfl _ _ rfl w.heap.size u3 acc rfl w wr (l[k]) HB.out rfl HAL.out ?_; intro v4 w4 hb4; have HB4 := hide hb4; clear hb4)
        go_roundw
        case rel => exact ⟨k + 1, acc ++ [l[k]], by omega, by go_num, by simp; omega, HB4, HN⟩
        case measure => simp [intOf]; omega
    · have hk2 : k = n := by omega
      have HE2 : Hid (acc = unpairL l) := hide (by rw [← HE.out, List.drop_eq_nil_of_le (by omega : l.length ≤ k), unpairL]; simp)
      have hcv := HB.out.convert
      clear hlt
      go_wp2_with fail
      go_ret
      exact ⟨by rw [← HE2.out]; rfl, HB.out.below⟩
set_option maxHeartbeats 1000000 in
theorem unpaired_nil (A : Option Addr) (cap : Nat) (w : World) :
    Calls Tryz.prog 105 #[.slice A 0 cap] w fun e w' => e = .returned (.string (str (unpairL []))) ∧ Below w.heap.size w w' := by
  go_enter Tryz.func105, Tryz.ntmps105
  go_wp2_with (refine wpList_buf_make rfl _ _ rfl w.heap.size w (Below.refl _ _) (Nat.le_refl _) 0 0 rfl rfl rfl (by omega) ?_; intro v0 w0 hb0)
  go_loopw [3, 4] (fun o i wr => i = .int .i64 0 ∧ Hid (Buf w.heap.size o [] w wr)) (fun _ i _ => 0)
  case atStart => exact ⟨rfl, hb0⟩
  case round =>
    obtain ⟨rfl, HB⟩ := hrel
    have hcv := HB.out.convert
    go_wp2_with fail
    go_ret
    exact ⟨rfl, HB.out.below⟩
theorem unpaired_any {B : Nat} {v : Value} {l : List UInt8} {W0 w : World} (h : Buf B v l W0 w) (hs : l.length ≤ 1048576) :
    Calls Tryz.prog 105 #[v] w fun e w' => e = .returned (.string (str (unpairL l))) ∧ Below w.heap.size w w' := by
  cases l with
  | nil =>
    obtain ⟨A, c, rfl⟩ := h.slice_len
    exact unpaired_nil A c w
  | cons x r =>
    obtain ⟨g, cap, rfl, _, _, _, hg⟩ := h.form (by simp)
    exact unpaired_row g _ cap _ w rfl hg (fun j hj => h.cellAt j hj) hs
end Go.Proofs.YtnckbdkofbhilaaGreatDoor
