/- The trie of ent.Text's replacer in memory; WALK of (*strings.genericReplacer).lookup at it. No statement is proved here. -/
import Derived.Test.YtmojckphfbcibaaGreatDoorBaseN
import Derived.Test.YtmojckphfbcibaaGreatDoorBaseM
import Derived.Test.YtmojckphfbcibaaGreatDoorShelf
import Derived.Deep.QuietTactic
import Derived.BigQuiet
namespace Go.Proofs.YtmojckphfbcibaaGreatDoor
open Go.RowKit
set_option linter.unusedVariables false
set_option linter.unusedSimpArgs false
set_option maxRecDepth 100000
/-- a byte's place in the trie's tables; 5: it has none -/
def mapC (c : UInt8) : Nat := if c = 38 then 0 else if c = 60 then 1 else if c = 62 then 2 else if c = 160 then 3 else if c = 194 then 4 else 5
def ampT : List UInt8 := [38, 97, 109, 112, 59]
def ltT : List UInt8 := [38, 108, 116, 59]
def gtT : List UInt8 := [38, 103, 116, 59]
def nbT : List UInt8 := [38, 110, 98, 115, 112, 59]
/-- a node: value, priority, prefix, next, table -/
def Node (w : World) (b : Nat) (val : ByteArray) (prio : Int) (pre : ByteArray) (nx : Option Addr) (tab : Value) : Prop :=
  w.cell? ⟨b, 0, none⟩ = some (.string val) ∧ w.cell? ⟨b, 1, none⟩ = some (.int .i64 prio) ∧ w.cell? ⟨b, 2, none⟩ = some (.string pre) ∧ w.cell? ⟨b, 3, none⟩ = some (.pointer nx) ∧ w.cell? ⟨b, 4, none⟩ = some tab
/-- the trie in blocks G (the replacer), T (its table), n0 .. n5 (nodes) -/
structure Trie (w : World) (G T n0 n1 n2 n4 n5 : Nat) : Prop where
  root : Node w G ⟨#[]⟩ 0 ⟨#[]⟩ none (.slice (some ⟨T, 0, none⟩) 5 5)
  size : w.cell? ⟨G, 5, none⟩ = some (.int .i64 5)
  map : ∀ c : UInt8, w.cell? ⟨G, 6 + c.toNat, none⟩ = some (.int .u8 (mapC c))
  t0 : w.cell? ⟨T, 0, none⟩ = some (.pointer (some ⟨n0, 0, none⟩))
  t1 : w.cell? ⟨T, 1, none⟩ = some (.pointer (some ⟨n1, 0, none⟩))
  t2 : w.cell? ⟨T, 2, none⟩ = some (.pointer (some ⟨n2, 0, none⟩))
  t3 : w.cell? ⟨T, 3, none⟩ = some (.pointer none)
  t4 : w.cell? ⟨T, 4, none⟩ = some (.pointer (some ⟨n4, 0, none⟩))
  k0 : Node w n0 (str ampT) 8 ⟨#[]⟩ none (.slice none 0 0)
  k1 : Node w n1 (str ltT) 6 ⟨#[]⟩ none (.slice none 0 0)
  k2 : Node w n2 (str gtT) 4 ⟨#[]⟩ none (.slice none 0 0)
  k4 : Node w n4 ⟨#[]⟩ 0 ⟨#[160]⟩ (some ⟨n5, 0, none⟩) (.slice none 0 0)
  k5 : Node w n5 (str nbT) 2 ⟨#[]⟩ none (.slice none 0 0)
/-- what stands for the begin of a text, and how many bytes that has -/
def lookL : List UInt8 → Option (List UInt8 × Nat)
  | 38 :: _ => some (ampT, 1)
  | 60 :: _ => some (ltT, 1)
  | 62 :: _ => some (gtT, 1)
  | 194 :: 160 :: _ => some (nbT, 2)
  | _ => none
theorem below_drewN (w : World) (n : Nat) : Below w.heap.size w (w.drewN n) := ⟨rfl, rfl, rfl, Nat.le_refl _, fun _ _ => rfl⟩
def lookV : Option (List UInt8 × Nat) → Value
  | some (t, n) => .tuple #[.string (str t), .int .i64 n, .bool true]
  | none => .tuple #[.string ⟨#[]⟩, .int .i64 0, .bool false]
def LookP (s : ByteArray) (w : World) (e : Ending) (w' : World) : Prop := e = .returned (lookV (lookL s.data.toList)) ∧ Below w.heap.size w w'
theorem chr_lt (c : UInt8) : c.toNat < 256 := c.toBitVec.isLt
theorem mapC_none {c : UInt8} (ho : c ≠ 38 ∧ c ≠ 60 ∧ c ≠ 62 ∧ c ≠ 160 ∧ c ≠ 194) : mapC c = 5 := by
  obtain ⟨a, b, d, e, f⟩ := ho
  rw [mapC, if_neg a, if_neg b, if_neg d, if_neg e, if_neg f]
theorem look_none {c : UInt8} {r : List UInt8} (ho : c ≠ 38 ∧ c ≠ 60 ∧ c ≠ 62 ∧ c ≠ 160 ∧ c ≠ 194) : lookL (c :: r) = none := by
  obtain ⟨a, b, d, e, f⟩ := ho
  unfold lookL
  split <;> first | rfl | (rename_i h; injection h with h1 h2; exact absurd h1 (by assumption))
theorem look_194n {a : UInt8} {r : List UInt8} (h : a ≠ 160) : lookL (194 :: a :: r) = none := by
  unfold lookL
  split <;> first | rfl | (rename_i h'; injection h' with h1 h2; first | (injection h2 with h3 h4; exact absurd h3 h) | exact absurd h1 (by decide))

set_option maxHeartbeats 4000000 in
theorem look_nil (s : ByteArray) (G T n0 n1 n2 n4 n5 : Nat) (w : World) (h : Trie w G T n0 n1 n2 n4 n5) (hl : s.data.toList = []) :
    Calls Tryz.prog 225 #[.pointer (some ⟨G, 0, none⟩), .string s, .bool false] w (LookP s w) := by
  have HT := hide h
  obtain ⟨r0, r1, r2, r3, r4⟩ := h.root
  have rs := h.size
  clear h
  have z := size0 (t := s) (by rw [← toList_length, hl]; rfl)
  have q1 := z.2
  have HL := hide hl
  clear z hl
  go_enter Tryz.func225, Tryz.ntmps225
  go_wp2_with fail
  go_loop [1, 6, 7, 8, 9, 10, 11] (fun sv a1 a2 a3 bv nd nv => sv = .string s ∧ a1 = .string ⟨#[]⟩ ∧ a2 = .int .i64 0 ∧ a3 = .bool false ∧ bv = .int .i64 0 ∧ nd = .pointer (some ⟨G, 0, none⟩) ∧ nv = .int .i64 0) (fun _ _ _ _ _ _ _ => 0)
  case atStart => exact ⟨rfl, rfl, rfl, rfl, rfl, rfl, rfl⟩
  case round =>
    obtain ⟨rfl, rfl, rfl, rfl, rfl, rfl, rfl⟩ := hrel
    go_wp2_with fail
    go_ret3
    exact ⟨by rw [HL.out]; rfl, Below.refl _ _⟩

set_option maxHeartbeats 4000000 in
theorem look_38 (s : ByteArray) (G T n0 n1 n2 n4 n5 : Nat) (w : World) (h : Trie w G T n0 n1 n2 n4 n5) (r : List UInt8) (hl : s.data.toList = 38 :: r) :
    Calls Tryz.prog 225 #[.pointer (some ⟨G, 0, none⟩), .string s, .bool false] w (LookP s w) := by
  have HT := hide h
  obtain ⟨r0, r1, r2, r3, r4⟩ := h.root
  have rs := h.size
  clear h
  have h0 : 0 < s.size := by rw [← toList_length, hl]; exact Nat.succ_pos _
  have hs0 : s[0] = 38 := by
    have := drop_cons s 0 h0
    rw [List.drop_zero, hl] at this
    injection this with e _; exact e.symm
  have q1 : s.toList.isEmpty = false := by rw [bytes_list, hl]; rfl
  have hm1 : w.cell? ⟨G, 6 + s[0].toNat, none⟩ = some (.int .u8 0) := by rw [HT.out.map s[0], hs0]; rfl
  have b1 : s[0].toNat < 256 := chr_lt _
  have b2 : (s[0].toNat : Int) < 256 := by omega
  have k1 : (1 : Int) ≤ s.size := by omega
  have hd : (s.extract 1 s.size).data.toList = r := by rw [extract_end, hl]; rfl
  have HL := hide hl
  clear hl hs0
  have tj := HT.out.t0
  obtain ⟨p0, p1, p2, p3, p4⟩ := HT.out.k0
  obtain ⟨VT, hVT⟩ : ∃ VT, VT = str ampT := ⟨_, rfl⟩
  rw [← hVT] at p0
  have HVT := hide hVT
  clear hVT hd
  go_enter Tryz.func225, Tryz.ntmps225
  go_wp2_with fail
  go_loopw [1, 6, 7, 8, 9, 10, 11] (fun sv a1 a2 a3 bv nd nv wr => (a1 = .string ⟨#[]⟩ ∧ a2 = .int .i64 0 ∧ a3 = .bool false ∧ bv = .int .i64 0) ∧ (∃ m, Hid (wr = w.drewN m)) ∧ ((sv = .string s ∧ nd = .pointer (some ⟨G, 0, none⟩) ∧ nv = .int .i64 0) ∨ (sv = .string (s.extract 1 s.size) ∧ nd = .pointer (some ⟨n0, 0, none⟩) ∧ nv = .int .i64 1))) (fun _ _ _ _ _ _ nv _ => 3 - (intOf nv).toNat)
  case atStart => exact ⟨⟨rfl, rfl, rfl, rfl⟩, ⟨0, hide rfl⟩, .inl ⟨rfl, rfl, rfl⟩⟩
  case round =>
    obtain ⟨⟨rfl, rfl, rfl, rfl⟩, ⟨m, HW⟩, ⟨rfl, rfl, rfl⟩ | ⟨rfl, rfl, rfl⟩⟩ := hrel
    · have hw := HW.out
      clear HW
      subst hw
      go_wp2_with fail
      go_quiet (fail)
      go_wp2_with fail
      go_roundw
      case rel => exact ⟨⟨rfl, rfl, rfl, rfl⟩, ⟨_, hide rfl⟩, .inr ⟨rfl, rfl, rfl⟩⟩
      case measure => simp [intOf]
    · have hw := HW.out
      clear HW
      subst hw
      cases hz : (s.extract 1 s.size).toList.isEmpty
      · go_wp2_with fail
        go_ret3
        exact ⟨by rw [HL.out, HVT.out]; rfl, below_drewN _ _⟩
      · go_wp2_with fail
        go_ret3
        exact ⟨by rw [HL.out, HVT.out]; rfl, below_drewN _ _⟩

set_option maxHeartbeats 4000000 in
theorem look_60 (s : ByteArray) (G T n0 n1 n2 n4 n5 : Nat) (w : World) (h : Trie w G T n0 n1 n2 n4 n5) (r : List UInt8) (hl : s.data.toList = 60 :: r) :
    Calls Tryz.prog 225 #[.pointer (some ⟨G, 0, none⟩), .string s, .bool false] w (LookP s w) := by
  have HT := hide h
  obtain ⟨r0, r1, r2, r3, r4⟩ := h.root
  have rs := h.size
  clear h
  have h0 : 0 < s.size := by rw [← toList_length, hl]; exact Nat.succ_pos _
  have hs0 : s[0] = 60 := by
    have := drop_cons s 0 h0
    rw [List.drop_zero, hl] at this
    injection this with e _; exact e.symm
  have q1 : s.toList.isEmpty = false := by rw [bytes_list, hl]; rfl
  have hm1 : w.cell? ⟨G, 6 + s[0].toNat, none⟩ = some (.int .u8 1) := by rw [HT.out.map s[0], hs0]; rfl
  have b1 : s[0].toNat < 256 := chr_lt _
  have b2 : (s[0].toNat : Int) < 256 := by omega
  have k1 : (1 : Int) ≤ s.size := by omega
  have hd : (s.extract 1 s.size).data.toList = r := by rw [extract_end, hl]; rfl
  have HL := hide hl
  clear hl hs0
  have tj := HT.out.t1
  obtain ⟨p0, p1, p2, p3, p4⟩ := HT.out.k1
  obtain ⟨VT, hVT⟩ : ∃ VT, VT = str ltT := ⟨_, rfl⟩
  rw [← hVT] at p0
  have HVT := hide hVT
  clear hVT hd
  go_enter Tryz.func225, Tryz.ntmps225
  go_wp2_with fail
  go_loopw [1, 6, 7, 8, 9, 10, 11] (fun sv a1 a2 a3 bv nd nv wr => (a1 = .string ⟨#[]⟩ ∧ a2 = .int .i64 0 ∧ a3 = .bool false ∧ bv = .int .i64 0) ∧ (∃ m, Hid (wr = w.drewN m)) ∧ ((sv = .string s ∧ nd = .pointer (some ⟨G, 0, none⟩) ∧ nv = .int .i64 0) ∨ (sv = .string (s.extract 1 s.size) ∧ nd = .pointer (some ⟨n1, 0, none⟩) ∧ nv = .int .i64 1))) (fun _ _ _ _ _ _ nv _ => 3 - (intOf nv).toNat)
  case atStart => exact ⟨⟨rfl, rfl, rfl, rfl⟩, ⟨0, hide rfl⟩, .inl ⟨rfl, rfl, rfl⟩⟩
  case round =>
    obtain ⟨⟨rfl, rfl, rfl, rfl⟩, ⟨m, HW⟩, ⟨rfl, rfl, rfl⟩ | ⟨rfl, rfl, rfl⟩⟩ := hrel
    · have hw := HW.out
      clear HW
      subst hw
      go_wp2_with fail
      go_quiet (fail)
      go_wp2_with fail
      go_roundw
      case rel => exact ⟨⟨rfl, rfl, rfl, rfl⟩, ⟨_, hide rfl⟩, .inr ⟨rfl, rfl, rfl⟩⟩
      case measure => simp [intOf]
    · have hw := HW.out
      clear HW
      subst hw
      cases hz : (s.extract 1 s.size).toList.isEmpty
      · go_wp2_with fail
        go_ret3
        exact ⟨by rw [HL.out, HVT.out]; rfl, below_drewN _ _⟩
      · go_wp2_with fail
        go_ret3
        exact ⟨by rw [HL.out, HVT.out]; rfl, below_drewN _ _⟩

set_option maxHeartbeats 4000000 in
theorem look_62 (s : ByteArray) (G T n0 n1 n2 n4 n5 : Nat) (w : World) (h : Trie w G T n0 n1 n2 n4 n5) (r : List UInt8) (hl : s.data.toList = 62 :: r) :
    Calls Tryz.prog 225 #[.pointer (some ⟨G, 0, none⟩), .string s, .bool false] w (LookP s w) := by
  have HT := hide h
  obtain ⟨r0, r1, r2, r3, r4⟩ := h.root
  have rs := h.size
  clear h
  have h0 : 0 < s.size := by rw [← toList_length, hl]; exact Nat.succ_pos _
  have hs0 : s[0] = 62 := by
    have := drop_cons s 0 h0
    rw [List.drop_zero, hl] at this
    injection this with e _; exact e.symm
  have q1 : s.toList.isEmpty = false := by rw [bytes_list, hl]; rfl
  have hm1 : w.cell? ⟨G, 6 + s[0].toNat, none⟩ = some (.int .u8 2) := by rw [HT.out.map s[0], hs0]; rfl
  have b1 : s[0].toNat < 256 := chr_lt _
  have b2 : (s[0].toNat : Int) < 256 := by omega
  have k1 : (1 : Int) ≤ s.size := by omega
  have hd : (s.extract 1 s.size).data.toList = r := by rw [extract_end, hl]; rfl
  have HL := hide hl
  clear hl hs0
  have tj := HT.out.t2
  obtain ⟨p0, p1, p2, p3, p4⟩ := HT.out.k2
  obtain ⟨VT, hVT⟩ : ∃ VT, VT = str gtT := ⟨_, rfl⟩
  rw [← hVT] at p0
  have HVT := hide hVT
  clear hVT hd
  go_enter Tryz.func225, Tryz.ntmps225
  go_wp2_with fail
  go_loopw [1, 6, 7, 8, 9, 10, 11] (fun sv a1 a2 a3 bv nd nv wr => (a1 = .string ⟨#[]⟩ ∧ a2 = .int .i64 0 ∧ a3 = .bool false ∧ bv = .int .i64 0) ∧ (∃ m, Hid (wr = w.drewN m)) ∧ ((sv = .string s ∧ nd = .pointer (some ⟨G, 0, none⟩) ∧ nv = .int .i64 0) ∨ (sv = .string (s.extract 1 s.size) ∧ nd = .pointer (some ⟨n2, 0, none⟩) ∧ nv = .int .i64 1))) (fun _ _ _ _ _ _ nv _ => 3 - (intOf nv).toNat)
  case atStart => exact ⟨⟨rfl, rfl, rfl, rfl⟩, ⟨0, hide rfl⟩, .inl ⟨rfl, rfl, rfl⟩⟩
  case round =>
    obtain ⟨⟨rfl, rfl, rfl, rfl⟩, ⟨m, HW⟩, ⟨rfl, rfl, rfl⟩ | ⟨rfl, rfl, rfl⟩⟩ := hrel
    · have hw := HW.out
      clear HW
      subst hw
      go_wp2_with fail
      go_quiet (fail)
      go_wp2_with fail
      go_roundw
      case rel => exact ⟨⟨rfl, rfl, rfl, rfl⟩, ⟨_, hide rfl⟩, .inr ⟨rfl, rfl, rfl⟩⟩
      case measure => simp [intOf]
    · have hw := HW.out
      clear HW
      subst hw
      cases hz : (s.extract 1 s.size).toList.isEmpty
      · go_wp2_with fail
        go_ret3
        exact ⟨by rw [HL.out, HVT.out]; rfl, below_drewN _ _⟩
      · go_wp2_with fail
        go_ret3
        exact ⟨by rw [HL.out, HVT.out]; rfl, below_drewN _ _⟩

set_option maxHeartbeats 4000000 in
theorem look_160 (s : ByteArray) (G T n0 n1 n2 n4 n5 : Nat) (w : World) (h : Trie w G T n0 n1 n2 n4 n5) (r : List UInt8) (hl : s.data.toList = 160 :: r) :
    Calls Tryz.prog 225 #[.pointer (some ⟨G, 0, none⟩), .string s, .bool false] w (LookP s w) := by
  have HT := hide h
  obtain ⟨r0, r1, r2, r3, r4⟩ := h.root
  have rs := h.size
  clear h
  have h0 : 0 < s.size := by rw [← toList_length, hl]; exact Nat.succ_pos _
  have hs0 : s[0] = 160 := by
    have := drop_cons s 0 h0
    rw [List.drop_zero, hl] at this
    injection this with e _; exact e.symm
  have q1 : s.toList.isEmpty = false := by rw [bytes_list, hl]; rfl
  have hm1 : w.cell? ⟨G, 6 + s[0].toNat, none⟩ = some (.int .u8 3) := by rw [HT.out.map s[0], hs0]; rfl
  have b1 : s[0].toNat < 256 := chr_lt _
  have b2 : (s[0].toNat : Int) < 256 := by omega
  have k1 : (1 : Int) ≤ s.size := by omega
  have hd : (s.extract 1 s.size).data.toList = r := by rw [extract_end, hl]; rfl
  have HL := hide hl
  clear hl hs0
  have tj := HT.out.t3
  clear hd
  go_enter Tryz.func225, Tryz.ntmps225
  go_wp2_with fail
  go_loopw [1, 6, 7, 8, 9, 10, 11] (fun sv a1 a2 a3 bv nd nv wr => (a1 = .string ⟨#[]⟩ ∧ a2 = .int .i64 0 ∧ a3 = .bool false ∧ bv = .int .i64 0) ∧ (∃ m, Hid (wr = w.drewN m)) ∧ ((sv = .string s ∧ nd = .pointer (some ⟨G, 0, none⟩) ∧ nv = .int .i64 0) ∨ (sv = .string (s.extract 1 s.size) ∧ nd = .pointer none ∧ nv = .int .i64 1))) (fun _ _ _ _ _ _ nv _ => 3 - (intOf nv).toNat)
  case atStart => exact ⟨⟨rfl, rfl, rfl, rfl⟩, ⟨0, hide rfl⟩, .inl ⟨rfl, rfl, rfl⟩⟩
  case round =>
    obtain ⟨⟨rfl, rfl, rfl, rfl⟩, ⟨m, HW⟩, ⟨rfl, rfl, rfl⟩ | ⟨rfl, rfl, rfl⟩⟩ := hrel
    · have hw := HW.out
      clear HW
      subst hw
      go_wp2_with fail
      go_quiet (fail)
      go_wp2_with fail
      go_roundw
      case rel => exact ⟨⟨rfl, rfl, rfl, rfl⟩, ⟨_, hide rfl⟩, .inr ⟨rfl, rfl, rfl⟩⟩
      case measure => simp [intOf]
    · have hw := HW.out
      clear HW
      subst hw
      go_wp2_with fail
      go_ret3
      exact ⟨by rw [HL.out]; rfl, below_drewN _ _⟩

set_option maxHeartbeats 4000000 in
theorem look_other (s : ByteArray) (G T n0 n1 n2 n4 n5 : Nat) (w : World) (h : Trie w G T n0 n1 n2 n4 n5) (c : UInt8) (r : List UInt8) (hl : s.data.toList = c :: r) (ho : c ≠ 38 ∧ c ≠ 60 ∧ c ≠ 62 ∧ c ≠ 160 ∧ c ≠ 194) :
    Calls Tryz.prog 225 #[.pointer (some ⟨G, 0, none⟩), .string s, .bool false] w (LookP s w) := by
  have HT := hide h
  obtain ⟨r0, r1, r2, r3, r4⟩ := h.root
  have rs := h.size
  clear h
  have h0 : 0 < s.size := by rw [← toList_length, hl]; exact Nat.succ_pos _
  have hs0 : s[0] = c := by
    have := drop_cons s 0 h0
    rw [List.drop_zero, hl] at this
    injection this with e _; exact e.symm
  have q1 : s.toList.isEmpty = false := by rw [bytes_list, hl]; rfl
  have hm1 : w.cell? ⟨G, 6 + s[0].toNat, none⟩ = some (.int .u8 5) := by rw [HT.out.map s[0], hs0]; rw [mapC_none ho]; rfl
  have b1 : s[0].toNat < 256 := chr_lt _
  have b2 : (s[0].toNat : Int) < 256 := by omega
  have k1 : (1 : Int) ≤ s.size := by omega
  have hd : (s.extract 1 s.size).data.toList = r := by rw [extract_end, hl]; rfl
  have HL := hide hl
  clear hl hs0
  clear hd
  go_enter Tryz.func225, Tryz.ntmps225
  go_wp2_with fail
  go_loopw [1, 6, 7, 8, 9, 10, 11] (fun sv a1 a2 a3 bv nd nv wr => (sv = .string s ∧ nd = .pointer (some ⟨G, 0, none⟩) ∧ nv = .int .i64 0) ∧ (a1 = .string ⟨#[]⟩ ∧ a2 = .int .i64 0 ∧ a3 = .bool false ∧ bv = .int .i64 0) ∧ Hid (wr = w)) (fun _ _ _ _ _ _ _ _ => 0)
  case atStart => exact ⟨⟨rfl, rfl, rfl⟩, ⟨rfl, rfl, rfl, rfl⟩, hide rfl⟩
  case round =>
    obtain ⟨⟨rfl, rfl, rfl⟩, ⟨rfl, rfl, rfl, rfl⟩, HW⟩ := hrel
    have hw := HW.out
    clear HW
    subst hw
    go_wp2_with fail
    go_quiet (fail)
    go_wp2_with fail
    go_ret3
    exact ⟨by rw [HL.out, look_none ho]; rfl, below_drewN _ _⟩

set_option maxHeartbeats 4000000 in
theorem look_194 (s : ByteArray) (G T n0 n1 n2 n4 n5 : Nat) (w : World) (h : Trie w G T n0 n1 n2 n4 n5) (r : List UInt8) (hl : s.data.toList = 194 :: r) :
    Calls Tryz.prog 225 #[.pointer (some ⟨G, 0, none⟩), .string s, .bool false] w (LookP s w) := by
  have HT := hide h
  obtain ⟨r0, r1, r2, r3, r4⟩ := h.root
  have rs := h.size
  clear h
  have h0 : 0 < s.size := by rw [← toList_length, hl]; exact Nat.succ_pos _
  have hs0 : s[0] = 194 := by
    have := drop_cons s 0 h0
    rw [List.drop_zero, hl] at this
    injection this with e _; exact e.symm
  have q1 : s.toList.isEmpty = false := by rw [bytes_list, hl]; rfl
  have hm1 : w.cell? ⟨G, 6 + s[0].toNat, none⟩ = some (.int .u8 4) := by rw [HT.out.map s[0], hs0]; rfl
  have b1 : s[0].toNat < 256 := chr_lt _
  have b2 : (s[0].toNat : Int) < 256 := by omega
  have k1 : (1 : Int) ≤ s.size := by omega
  have hd : (s.extract 1 s.size).data.toList = r := by rw [extract_end, hl]; rfl
  have HL := hide hl
  clear hl hs0
  have tj := HT.out.t4
  obtain ⟨p0, p1, p2, p3, p4⟩ := HT.out.k4
  obtain ⟨o0, o1, o2, o3, o4⟩ := HT.out.k5
  obtain ⟨VT, hVT⟩ : ∃ VT, VT = str nbT := ⟨_, rfl⟩
  rw [← hVT] at o0
  have HVT := hide hVT
  obtain ⟨S1, hS1⟩ : ∃ S1, S1 = s.extract 1 s.size := ⟨_, rfl⟩
  have hd1 : S1.data.toList = r := by rw [hS1]; exact hd
  cases hp : Lib.hasPrefix S1.data.toList [160] with
  | true =>
    obtain ⟨r1, hr1⟩ : ∃ r1, r = 160 :: r1 := by
      rw [hd1] at hp
      cases r with
      | nil => simp [Lib.hasPrefix] at hp
      | cons a r1 => exact ⟨r1, by simp [Lib.hasPrefix] at hp; rw [hp]⟩
    have q2 : S1.toList.isEmpty = false := by rw [bytes_list, hd1, hr1]; rfl
    have k2 : (1 : Int) ≤ S1.size := by
      have : 0 < S1.size := by rw [← toList_length, hd1, hr1]; exact Nat.succ_pos _
      omega
    have HR := hide hr1
    have HC := hide (Tryz.strings_HasPrefix S1 ⟨#[160]⟩)
    have HP := hide hp
    have HS := hide hS1
    clear hVT hd hr1 hd1 hp hS1
    go_enter Tryz.func225, Tryz.ntmps225
    go_wp2_with fail
    go_loopw [1, 6, 7, 8, 9, 10, 11] (fun sv a1 a2 a3 bv nd nv wr => (a1 = .string ⟨#[]⟩ ∧ a2 = .int .i64 0 ∧ a3 = .bool false ∧ bv = .int .i64 0) ∧ (∃ m, Hid (wr = w.drewN m)) ∧ ((sv = .string s ∧ nd = .pointer (some ⟨G, 0, none⟩) ∧ nv = .int .i64 0) ∨ (sv = .string S1 ∧ nd = .pointer (some ⟨n4, 0, none⟩) ∧ nv = .int .i64 1) ∨ (∃ S2, sv = .string S2 ∧ nd = .pointer (some ⟨n5, 0, none⟩) ∧ nv = .int .i64 2))) (fun _ _ _ _ _ _ nv _ => 3 - (intOf nv).toNat)
    case atStart => exact ⟨⟨rfl, rfl, rfl, rfl⟩, ⟨0, hide rfl⟩, .inl ⟨rfl, rfl, rfl⟩⟩
    case round =>
      obtain ⟨⟨rfl, rfl, rfl, rfl⟩, ⟨m, HW⟩, ⟨rfl, rfl, rfl⟩ | ⟨rfl, rfl, rfl⟩ | ⟨S2, rfl, rfl, rfl⟩⟩ := hrel
      · have hw := HW.out
        clear HW
        subst hw
        go_wp2_with fail
        go_quiet (fail)
        go_wp2_with fail
        go_roundw
        case rel => exact ⟨⟨rfl, rfl, rfl, rfl⟩, ⟨_, hide rfl⟩, .inr (.inl ⟨by rw [← HS.out], rfl, rfl⟩)⟩
        case measure => simp [intOf]
      · have hw := HW.out
        clear HW
        subst hw
        go_wp2_with (refine (HC.out _).mono ?_; rintro e w1 ⟨rfl, rfl⟩; rw [show Lib.hasPrefix S1.data.toList (⟨#[160]⟩ : ByteArray).data.toList = true from HP.out])
        go_roundw
        case rel => exact ⟨⟨rfl, rfl, rfl, rfl⟩, ⟨_, hide rfl⟩, .inr (.inr ⟨_, rfl, rfl, rfl⟩)⟩
        case measure => simp [intOf]
      · have hw := HW.out
        clear HW
        subst hw
        cases hz : S2.toList.isEmpty
        · go_wp2_with fail
          go_ret3
          exact ⟨by rw [HL.out, HVT.out, HR.out]; rfl, below_drewN _ _⟩
        · go_wp2_with fail
          go_ret3
          exact ⟨by rw [HL.out, HVT.out, HR.out]; rfl, below_drewN _ _⟩
  | false =>
    have hR : lookL (194 :: r) = none := by
      rw [hd1] at hp
      cases r with
      | nil => rfl
      | cons a r1 => exact look_194n (by rintro rfl; simp [Lib.hasPrefix] at hp)
    have HR := hide hR
    have HC := hide (Tryz.strings_HasPrefix S1 ⟨#[160]⟩)
    have HP := hide hp
    have HS := hide hS1
    clear hVT hd hd1 hp hR hS1
    go_enter Tryz.func225, Tryz.ntmps225
    go_wp2_with fail
    go_loopw [1, 6, 7, 8, 9, 10, 11] (fun sv a1 a2 a3 bv nd nv wr => (a1 = .string ⟨#[]⟩ ∧ a2 = .int .i64 0 ∧ a3 = .bool false ∧ bv = .int .i64 0) ∧ (∃ m, Hid (wr = w.drewN m)) ∧ ((sv = .string s ∧ nd = .pointer (some ⟨G, 0, none⟩) ∧ nv = .int .i64 0) ∨ (sv = .string S1 ∧ nd = .pointer (some ⟨n4, 0, none⟩) ∧ nv = .int .i64 1))) (fun _ _ _ _ _ _ nv _ => 3 - (intOf nv).toNat)
    case atStart => exact ⟨⟨rfl, rfl, rfl, rfl⟩, ⟨0, hide rfl⟩, .inl ⟨rfl, rfl, rfl⟩⟩
    case round =>
      obtain ⟨⟨rfl, rfl, rfl, rfl⟩, ⟨m, HW⟩, ⟨rfl, rfl, rfl⟩ | ⟨rfl, rfl, rfl⟩⟩ := hrel
      · have hw := HW.out
        clear HW
        subst hw
        go_wp2_with fail
        go_quiet (fail)
        go_wp2_with fail
        go_roundw
        case rel => exact ⟨⟨rfl, rfl, rfl, rfl⟩, ⟨_, hide rfl⟩, .inr ⟨by rw [← HS.out], rfl, rfl⟩⟩
        case measure => simp [intOf]
      · have hw := HW.out
        clear HW
        subst hw
        cases hz : S1.toList.isEmpty
        · go_wp2_with (refine (HC.out _).mono ?_; rintro e w1 ⟨rfl, rfl⟩; rw [show Lib.hasPrefix S1.data.toList (⟨#[160]⟩ : ByteArray).data.toList = false from HP.out])
          go_ret3
          exact ⟨by rw [HL.out, HR.out]; rfl, below_drewN _ _⟩
        · go_wp2_with fail
          go_ret3
          exact ⟨by rw [HL.out, HR.out]; rfl, below_drewN _ _⟩

theorem look_any (s : ByteArray) (G T n0 n1 n2 n4 n5 : Nat) (w : World) (h : Trie w G T n0 n1 n2 n4 n5) :
    Calls Tryz.prog 225 #[.pointer (some ⟨G, 0, none⟩), .string s, .bool false] w (LookP s w) := by
  cases hl : s.data.toList with
  | nil => exact look_nil s G T n0 n1 n2 n4 n5 w h hl
  | cons c r =>
    by_cases e1 : c = 38
    · subst e1; exact look_38 s G T n0 n1 n2 n4 n5 w h r hl
    by_cases e2 : c = 60
    · subst e2; exact look_60 s G T n0 n1 n2 n4 n5 w h r hl
    by_cases e3 : c = 62
    · subst e3; exact look_62 s G T n0 n1 n2 n4 n5 w h r hl
    by_cases e4 : c = 160
    · subst e4; exact look_160 s G T n0 n1 n2 n4 n5 w h r hl
    by_cases e5 : c = 194
    · subst e5; exact look_194 s G T n0 n1 n2 n4 n5 w h r hl
    exact look_other s G T n0 n1 n2 n4 n5 w h c r hl ⟨e1, e2, e3, e4, e5⟩
end Go.Proofs.YtmojckphfbcibaaGreatDoor
