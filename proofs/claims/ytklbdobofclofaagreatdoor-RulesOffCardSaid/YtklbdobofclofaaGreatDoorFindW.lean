/- WALKS of attach.Find and of the reference's Find of layer 11. No statement is proved here. Own work of the verifier. -/
import Derived.Test.YtklbdobofclofaaGreatDoorBaseN
namespace Go.Proofs.YtklbdobofclofaaGreatDoor
open Go.RowKit
set_option linter.unusedVariables false
set_option linter.unusedSimpArgs false
set_option maxRecDepth 100000
def findV (o : Option Nat) : Value := .tuple #[.int .i64 ((o.getD 0 : Nat) : Int), .bool o.isSome]
theorem findK_bound (d : List UInt8) : ∀ (F : List FileL) (k n : Nat), findK d F k = some n → k ≤ n ∧ n < k + F.length
  | [], k, n, h => by cases h
  | f :: r, k, n, h => by
    unfold findK at h
    split at h
    · injection h with h; subst h; exact ⟨Nat.le_refl _, by simp⟩
    · have := findK_bound d r (k + 1) n h
      simp only [List.length_cons]; omega
theorem findL_lt {F : List FileL} {d : List UInt8} {n : Nat} (h : findL F d = some n) : n < F.length := by
  unfold findL at h
  split at h
  · cases h
  · have := findK_bound d F 0 n h; omega
theorem findK_hit {d : List UInt8} {f : FileL} {r : List FileL} {k : Nat} (h : (f.id == d) = true) : findK d (f :: r) k = some k := by unfold findK; rw [if_pos h]
theorem findK_miss {d : List UInt8} {f : FileL} {r : List FileL} {k : Nat} (h : (f.id == d) = false) : findK d (f :: r) k = findK d r (k + 1) := by
  rw [findK, if_neg (by rw [h]; decide)]
set_option maxHeartbeats 4000000 in
theorem attFind_any (v : Value) (F : List FileL) (d : ByteArray) (w : World) (h : FilesIn w v F) (hl : F.length ≤ 1000000) :
    Calls Tryz.prog 71 #[v, .string d] w fun e w' => e = .returned (findV (findL F d.data.toList)) ∧ Below w.heap.size w w' := by
  obtain ⟨A, cap, rfl⟩ := h.form
  have H := hide h
  clear h
  by_cases hz : d.size = 0
  · have h0 : d = ⟨#[]⟩ := ext_list (size0 hz).1
    subst h0
    go_enter Tryz.func71, Tryz.ntmps71
    go_wp2_with fail
    go_ret2
    exact ⟨rfl, Below.refl _ _⟩
  · have e1 : d.toList.isEmpty = false := (sizeP hz).2
    have HR : Hid (findL F d.data.toList = findK d.data.toList F 0) := hide (if_neg (sizeP hz).1)
    clear hz
    go_enter Tryz.func71, Tryz.ntmps71
    go_wp2_with fail
    go_loopw [12] (fun iv wr => ∃ k : Nat, k ≤ F.length ∧ iv = .int .i64 k ∧ Hid (Below w.heap.size w wr) ∧ Hid (findK d.data.toList (F.drop k) k = findK d.data.toList F 0)) (fun iv _ => F.length - (intOf iv).toNat)
    case atStart => exact ⟨0, Nat.zero_le _, rfl, hide (Below.refl _ _), hide rfl⟩
    case round =>
      obtain ⟨k, hk, rfl, HB, HG⟩ := hrel
      have hk6 : k ≤ 1000000 := by omega
      by_cases hlt : k < F.length
      · obtain ⟨a, rfl, c0, c1, c2, c3⟩ := (H.out.kept HB.out).at k _ (List.getElem?_eq_getElem hlt)
        have hdr : F.drop k = F[k] :: F.drop (k + 1) := List.drop_eq_getElem_cons hlt
        have HG2 := HG.out
        rw [hdr] at HG2
        obtain ⟨p, hp⟩ : ∃ p, p = F[k]'hlt := ⟨_, rfl⟩
        rw [← hp] at c0 c1 c2 c3 HG2
        obtain ⟨P0, hP0⟩ : ∃ P0, P0 = str p.name := ⟨_, rfl⟩
        obtain ⟨P1, hP1⟩ : ∃ P1, P1 = str p.kind := ⟨_, rfl⟩
        obtain ⟨P2, hP2⟩ : ∃ P2, P2 = str p.id := ⟨_, rfl⟩
        obtain ⟨P3, hP3⟩ : ∃ P3, P3 = str p.bytes := ⟨_, rfl⟩
        rw [← hP0] at c0
        rw [← hP1] at c1
        rw [← hP2] at c2
        rw [← hP3] at c3
        have HLT := hide hlt
        have HBA : Hid (∀ o, Below w.heap.size w (wr.alloc o)) := hide (fun o => HB.out.alloc HB.out.size o)
        cases he : (p.id == d.data.toList) with
        | true =>
          have t1 : (P2.toList == d.toList) = true := by rw [hP2, str_list, bytes_list]; exact he
          have HV : Hid (findV (findL F d.data.toList) = .tuple #[.int .i64 k, .bool true]) := hide (by
            rw [HR.out, ← HG2, findK_hit he]; rfl)
          clear he hdr HG2 hp hP0 hP1 hP2 hP3
          go_wp2_with fail
          go_ret2
          exact ⟨by rw [HV.out] <;> rfl, HBA.out _⟩
        | false =>
          have t1 : (P2.toList == d.toList) = false := by rw [hP2, str_list, bytes_list]; exact he
          have HGN : Hid (findK d.data.toList (F.drop (k + 1)) (k + 1) = findK d.data.toList F 0) := hide (by
            rw [← HG2, findK_miss he])
          clear he hdr HG2 hp hP0 hP1 hP2 hP3
          go_wp2_with fail
          go_roundw
          case rel => exact ⟨k + 1, HLT.out, by go_num, hide (HBA.out _), HGN⟩
          case measure => simp [intOf]; have := HLT.out; omega
      · have HV : Hid (findV (findL F d.data.toList) = .tuple #[.int .i64 0, .bool false]) := hide (by
          rw [HR.out, ← HG.out, List.drop_eq_nil_of_le (by omega)]; rfl)
        go_wp2_with fail
        go_ret2
        exact ⟨by rw [HV.out] <;> rfl, HB.out⟩
set_option maxHeartbeats 4000000 in
theorem find11_any (v : Value) (F : List FileL) (d : ByteArray) (w : World) (h : FilesIn w v F) (hl : F.length ≤ 1000000) :
    Calls Tryz.prog 40 #[v, .string d] w fun e w' => e = .returned (findV (findL F d.data.toList)) ∧ Below w.heap.size w w' := by
  obtain ⟨A, cap, rfl⟩ := h.form
  have H := hide h
  clear h
  have hrest : ∀ k, Hid (d.data.toList = [] ∨ findK d.data.toList (F.drop k) k = findK d.data.toList F 0) → F.length ≤ k → Hid (findV (findL F d.data.toList) = .tuple #[.int .i64 0, .bool false]) := by
    intro k hk hk2
    rcases hk.out with h0 | h0
    · exact hide (by unfold findL; rw [if_pos h0]; rfl)
    · refine hide ?_
      unfold findL
      rw [← h0, List.drop_eq_nil_of_le hk2]
      split <;> rfl
  have HREST := hide hrest
  clear hrest
  go_enter Tryz.func40, Tryz.ntmps40
  go_wp2_with fail
  go_loopw [6] (fun iv wr => ∃ k : Nat, k ≤ F.length ∧ iv = .int .i64 k ∧ Hid (wr = w) ∧ Hid (d.data.toList = [] ∨ findK d.data.toList (F.drop k) k = findK d.data.toList F 0)) (fun iv _ => F.length - (intOf iv).toNat)
  case atStart => exact ⟨0, Nat.zero_le _, rfl, hide rfl, hide (.inr rfl)⟩
  case round =>
    obtain ⟨k, hk, rfl, HB, HG⟩ := hrel
    obtain rfl := HB.out
    have hk6 : k ≤ 1000000 := by omega
    by_cases hlt : k < F.length
    · obtain ⟨a, rfl, c0, c1, c2, c3⟩ := H.out.at k _ (List.getElem?_eq_getElem hlt)
      have hdr : F.drop k = F[k] :: F.drop (k + 1) := List.drop_eq_getElem_cons hlt
      have HG2 := HG.out
      obtain ⟨p, hp⟩ : ∃ p, p = F[k]'hlt := ⟨_, rfl⟩
      rw [← hp] at c0 c1 c2 c3
      obtain ⟨P0, hP0⟩ : ∃ P0, P0 = str p.name := ⟨_, rfl⟩
      obtain ⟨P1, hP1⟩ : ∃ P1, P1 = str p.kind := ⟨_, rfl⟩
      obtain ⟨P2, hP2⟩ : ∃ P2, P2 = str p.id := ⟨_, rfl⟩
      obtain ⟨P3, hP3⟩ : ∃ P3, P3 = str p.bytes := ⟨_, rfl⟩
      rw [← hP0] at c0
      rw [← hP1] at c1
      rw [← hP2] at c2
      rw [← hP3] at c3
      have HLT := hide hlt
      rw [← hp] at hdr
      by_cases hz : d.size = 0
      · have e1 : d.toList.isEmpty = true := (size0 hz).2
        have e2 : (!d.toList.isEmpty) = false := by rw [e1]; rfl
        have HGN : Hid (d.data.toList = [] ∨ findK d.data.toList (F.drop (k + 1)) (k + 1) = findK d.data.toList F 0) := hide (.inl (size0 hz).1)
        clear hz HG2 hdr hp hP0 hP1 hP2 hP3
        cases t1 : (P2.toList == d.toList)
        all_goals
          go_wp2_with fail
          go_roundw
          case rel => exact ⟨k + 1, HLT.out, by go_num, by first | exact trivial | exact hide rfl, HGN⟩
          case measure => simp [intOf]; have := HLT.out; omega
      · have e1 : d.toList.isEmpty = false := (sizeP hz).2
        have e2 : (!d.toList.isEmpty) = true := by rw [e1]; rfl
        have hne := (sizeP hz).1
        have hg3 : findK d.data.toList (p :: F.drop (k + 1)) k = findK d.data.toList F 0 := by
          rw [← hdr]; exact HG2.resolve_left hne
        cases he : (p.id == d.data.toList) with
        | true =>
          have t1 : (P2.toList == d.toList) = true := by rw [hP2, str_list, bytes_list]; exact he
          have HV : Hid (findV (findL F d.data.toList) = .tuple #[.int .i64 k, .bool true]) := hide (by
            unfold findL; rw [if_neg hne, ← hg3, findK_hit he]; rfl)
          clear he hdr HG2 hp hP0 hP1 hP2 hP3 hz hne hg3
          go_wp2_with fail
          go_ret2
          exact ⟨by rw [HV.out] <;> rfl, Below.refl _ _⟩
        | false =>
          have t1 : (P2.toList == d.toList) = false := by rw [hP2, str_list, bytes_list]; exact he
          have HGN : Hid (d.data.toList = [] ∨ findK d.data.toList (F.drop (k + 1)) (k + 1) = findK d.data.toList F 0) := hide (.inr (by
            rw [← hg3, findK_miss he]))
          clear he hdr HG2 hp hP0 hP1 hP2 hP3 hz hne hg3
          go_wp2_with fail
          go_roundw
          case rel => exact ⟨k + 1, HLT.out, by go_num, by first | exact trivial | exact hide rfl, HGN⟩
          case measure => simp [intOf]; have := HLT.out; omega
    · have HV := HREST.out k HG (by omega)
      go_wp2_with fail
      go_ret2
      exact ⟨by rw [HV.out] <;> rfl, Below.refl _ _⟩
end Go.Proofs.YtklbdobofclofaaGreatDoor
