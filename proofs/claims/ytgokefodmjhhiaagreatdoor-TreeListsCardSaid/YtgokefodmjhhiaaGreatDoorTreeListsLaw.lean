/- WALK of the law TreeLists. No statement is proved here. Own work of the verifier. -/
import Derived.Test.YtgokefodmjhhiaaGreatDoorRef14L
import Derived.Test.YtgokefodmjhhiaaGreatDoorTreeA
namespace Go.Proofs.YtgokefodmjhhiaaGreatDoor
open Go.RowKit
set_option linter.unusedVariables false
set_option linter.unusedSimpArgs false
set_option maxRecDepth 100000
/-! ### the document, as pure data -/
def liL : Nat → List UInt8
  | 0 => [60, 117, 108, 62]
  | n + 1 => liL n ++ [60, 108, 105, 62, 120]
def liT : Nat → Tr
  | 0 => .nil
  | n + 1 => .cons ⟨[108, 105], [], []⟩ (.cons (txH [120]) .nil .nil) (liT n)
def ulT (n : Nat) : Tr := .cons ⟨[117, 108], [], []⟩ (liT n) (.cons (txH [121]) .nil .nil)
set_option maxRecDepth 1000000 in
theorem lists_dec : (List.range 61).all (fun n => n == 0 || decide (buildP (scanL decE [] [] (liL n ++ [60, 47, 117, 108, 62, 121])) = ulT n)) = true := by decide +kernel
theorem lists_is (n : Nat) (h1 : 0 < n) (h2 : n ≤ 60) : buildP (scanL decE [] [] (liL n ++ [60, 47, 117, 108, 62, 121])) = ulT n := by
  have := List.all_eq_true.1 lists_dec n (List.mem_range.2 (by omega))
  simp only [Bool.or_eq_true, beq_iff_eq, decide_eq_true_eq] at this
  rcases this with h | h
  · omega
  · exact h
theorem liT_len (n : Nat) : (liT n).len = n := by induction n with
  | zero => rfl
  | succ n ih => simp only [liT, Tr.len, ih]
theorem liT_at (n k : Nat) (h : k < n) : (liT n).list[k]? = some (⟨[108, 105], [], []⟩, .cons (txH [120]) .nil .nil) := by
  induction n generalizing k with
  | zero => omega
  | succ n ih => cases k with
    | zero => rfl
    | succ k => simpa [liT, Tr.list] using ih k (by omega)
theorem liL_len (n : Nat) : (liL n).length = 4 + 5 * n := by induction n with
  | zero => rfl
  | succ n ih => simp only [liL, List.length_append, ih, List.length_cons, List.length_nil]; omega
theorem bl_next {w w1 w2 : World} (h : Below w.heap.size w w1) (h2 : Below w1.heap.size w1 w2) : Below w.heap.size w w2 := h.trans (h2.mono h.size)
set_option maxHeartbeats 16000000 in
theorem law_TreeLists (z : Int) (hz : (Lit.int .i64 z).wf = true) (w : World) (hE : EnvX w) :
    Calls Tryz.prog 11 #[.int .i64 z] w fun e w' => e = .returned (.bool true) ∧ Below w.heap.size w w' := by
  have HE := hide hE
  clear hE
  by_cases h1 : z < 1
  · have t0 : decide (z < 1) = true := decide_eq_true h1
    go_enter Tryz.func11, Tryz.ntmps11
    go_wp2_with fail
    refine (live14_any _ HE.out).mono ?_
    rintro e wl ⟨rfl, hbl⟩
    have HBL := hide (hbl)
    clear hbl
    go_wp2_with fail
    go_ret
    exact ⟨rfl, HBL.out⟩
  by_cases h2 : 60 < z
  · have t0 : decide (z < 1) = false := decide_eq_false h1
    have t1 : decide (60 < z) = true := decide_eq_true h2
    go_enter Tryz.func11, Tryz.ntmps11
    go_wp2_with fail
    refine (live14_any _ HE.out).mono ?_
    rintro e wl ⟨rfl, hbl⟩
    have HBL := hide (hbl)
    clear hbl
    go_wp2_with fail
    go_ret
    exact ⟨rfl, HBL.out⟩
  obtain ⟨n, rfl⟩ : ∃ n : Nat, z = n := ⟨z.toNat, by omega⟩
  have n1 : 0 < n := by omega
  have n2 : n ≤ 60 := by omega
  have t0 : decide ((n : Int) < 1) = false := decide_eq_false h1
  have t1 : decide (60 < (n : Int)) = false := decide_eq_false h2
  have hsz : (⟨#[60, 108, 105, 62, 120]⟩ : ByteArray).size = 5 := rfl
  have hsz2 : (⟨#[60, 47, 117, 108, 62, 121]⟩ : ByteArray).size = 6 := rfl
  clear hz h1 h2
  go_enter Tryz.func11, Tryz.ntmps11
  go_wp2_with fail
  go_loopw [3, 4] (fun sv i wr => ∃ (k : Nat) (S : ByteArray), k ≤ n ∧ i = .int .i64 k ∧ sv = .string S ∧ Hid (S.data.toList = liL k) ∧ Hid (wr = w)) (fun _ i _ => n - (intOf i).toNat)
  case atStart => exact ⟨0, _, Nat.zero_le _, rfl, rfl, hide rfl, hide rfl⟩
  case round =>
    obtain ⟨k, S, hk, rfl, rfl, HS, HW⟩ := hrel
    obtain rfl := HW.out
    have hSz : S.size = 4 + 5 * k := by rw [← liL_len k, ← HS.out, toList_length]
    by_cases hlt : k < n
    · have q1 : ¬ (9223372036854775807 < S.size + 5) := by omega
      have HS2 : Hid ((S ++ (⟨#[60, 108, 105, 62, 120]⟩ : ByteArray)).data.toList = liL (k + 1)) := hide (by
        have : (S ++ (⟨#[60, 108, 105, 62, 120]⟩ : ByteArray)).data.toList = S.data.toList ++ [60, 108, 105, 62, 120] := by simp
        rw [this, HS.out]; rfl)
      clear hSz
      go_wp2_with fail
      go_roundw
      case rel => exact ⟨k + 1, _, by omega, by go_num, rfl, HS2, by first | exact trivial | exact hide rfl⟩
      case measure => simp [intOf]; omega
    · obtain rfl : k = n := by omega
      have q1 : ¬ (9223372036854775807 < S.size + 6) := by omega
      obtain ⟨P, hP⟩ : ∃ P, P = S ++ (⟨#[60, 47, 117, 108, 62, 121]⟩ : ByteArray) := ⟨_, rfl⟩
      have hPz : P.size ≤ 1000000 := by rw [hP, ByteArray.size_append]; show S.size + 6 ≤ _; omega
      have hPe : buildP (scanL decE [] [] P.data.toList) = ulT k := by
        have : P.data.toList = S.data.toList ++ [60, 47, 117, 108, 62, 121] := by rw [hP]; simp
        rw [this, HS.out]; exact lists_is k n1 n2
      obtain ⟨m, hm⟩ := HE.out.2
      have HB1 := treeBuild_any P m _ hPz HE.out.1 hm
      rw [hPe] at HB1
      replace HB1 := hide HB1
      have HP := hide hP
      clear hSz hPz hPe hm HS hP
      go_wp2_with fail
      rw [← HP.out]
      refine HB1.out.mono ?_
      rintro e w1 ⟨v1, rfl, hn1, hb1⟩
      obtain ⟨A1, c1, hv1⟩ := NodesC.form hn1
      replace hv1 : v1 = .slice A1 2 c1 := hv1
      subst hv1
      obtain ⟨a, d, x, y, zz, m1, rfl, -, p1, -, -, -, p4, hm1, hK⟩ := NodesC.at hn1 0 ⟨[117, 108], [], []⟩ (liT k) rfl
      obtain ⟨a', d', x', y', zz', m', ha', -, -, -, -, r3, -, -, -⟩ := NodesC.at hn1 1 (txH [121]) .nil rfl
      obtain rfl := Option.some.inj ha'
      rw [liT_len] at hm1
      subst hm1
      rw [Nat.zero_mul, Addr.add_zero'] at p1 p4
      replace p1 : w1.cell? a = some (.string ⟨#[117, 108]⟩) := p1
      replace r3 : w1.cell? { block := a.block, off := a.off + 4 + 2 } = some (.string ⟨#[121]⟩) := r3
      have HE1 := hide (HE.out.kept hb1)
      have HBB1 := hide hb1
      have HK := hide hK
      clear hn1 hb1 hK
      go_wp2_with fail
      go_loopw [6] (fun i wr => ∃ j : Nat, j ≤ m1 ∧ i = .int .i64 j ∧ Hid (wr = w1)) (fun i _ => m1 - (intOf i).toNat)
      case atStart => exact ⟨0, Nat.zero_le _, rfl, hide rfl⟩
      case round =>
        obtain ⟨j, hj, rfl, HW1⟩ := hrel
        obtain rfl := HW1.out
        by_cases hjt : j < m1
        · obtain ⟨b, d2, x2, y2, z2, m2, rfl, -, s1, -, -, -, s4, hm2, -⟩ := NodesC.at HK.out j _ _ (liT_at m1 j hjt)
          replace hm2 : m2 = 1 := hm2
          subst hm2
          replace s1 : _ = some (Value.string ⟨#[108, 105]⟩) := s1
          go_wp2_with fail
          go_roundw
          case rel => exact ⟨j + 1, by omega, by go_num, by first | exact trivial | exact hide rfl⟩
          case measure => simp [intOf]; omega
        · go_wp2_with fail
          refine (live14_any _ HE1.out).mono ?_
          rintro e wl ⟨rfl, hbl⟩
          have HBL := hide (bl_next HBB1.out hbl)
          clear hbl
          go_wp2_with fail
          go_ret
          exact ⟨rfl, HBL.out⟩
end Go.Proofs.YtgokefodmjhhiaaGreatDoor
