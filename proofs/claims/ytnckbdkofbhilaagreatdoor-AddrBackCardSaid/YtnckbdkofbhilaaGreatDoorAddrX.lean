/- WALK of addr.remarked: the whole. No statement is proved here. -/
import Derived.Test.YtnckbdkofbhilaaGreatDoorAddrV
import Derived.Deep.RegionWith
namespace Go.Proofs.YtnckbdkofbhilaaGreatDoor
open Go.RowKit
set_option linter.unusedVariables false
set_option linter.unusedSimpArgs false
set_option maxRecDepth 100000
theorem cells_set8 {w : World} {g j : Nat} {cur : Array Value} {e : TypeId} {fr : Nat × Nat} (u : Value) (h : w.heap[g]? = some (.cells cur e fr)) : (w.setCell ⟨g, j, none⟩ u).heap[g]? = some (.cells (cur.setIfInBounds j u) e fr) := by
  have hlt := lt_of_block h
  have h' : w.heap[g] = .cells cur e fr := by simpa [Array.getElem?_eq_getElem hlt] using h
  show (w.heap.modify g _)[g]? = _
  rw [Array.getElem?_eq_getElem (by simpa using hlt), Array.getElem_modify_self, h']
  rfl
/-- walk with remarked's function -/
theorem walk_rm (s : ByteArray) (bg br bs B : Nat) (W0 w : World) (hs : s.size ≤ 1048576) (h : RmAt bg br bs B W0 (0, [], []) w) (hne : br ≠ bs) (hBg : B ≤ bg) (hBr : B ≤ br) (hBs : B ≤ bs) :
    Calls Tryz.prog 62 #[.string s, .func (.func 104) #[] #[.pointer (some ⟨bg, 0, none⟩), .pointer (some ⟨br, 0, none⟩), .pointer (some ⟨bs, 0, none⟩)]] w fun e w' => e = .returned (.tuple #[]) ∧
      RmAt bg br bs B W0 (rmAt s s.size) w' := by
  obtain ⟨v1, v2, t1, t2, t3, t4, _⟩ := h.rows
  have n1 : bg ≠ w.heap.size := Nat.ne_of_lt h.sg.lt
  have n2 : br ≠ w.heap.size := Nat.ne_of_lt t1.lt
  have n3 : bs ≠ w.heap.size := Nat.ne_of_lt t2.lt
  have hBw : B ≤ w.heap.size := t3.2.2
  refine (walk_remarked s _ w (fun k w' => RmAt bg br bs B W0 (rmAt s k) w' ∧ ∃ cs fr, w'.heap[w.heap.size]? = some (.cells cs 105 fr)) hs ?_ ?_ ?_ ?_).mono ?_
  · exact ⟨h.alloc _, _, _, heap_alloc_new w _⟩
  · rintro k w' i v ⟨i1, cs, fr, i2⟩
    exact ⟨i1.setOther i2 (by decide) n1 n2 n3 hBw i v, _, _, cells_set8 v i2⟩
  · rintro k w' ⟨i1, i2⟩
    exact ⟨i1.drew, i2⟩
  · rintro k hk w' ⟨i1, cs, fr, i2⟩
    obtain ⟨d1, d2, d3⟩ := rmAt_bd s k
    refine (rm_step k s[k] (placeAt s k hk) (rmAt s k) bg br bs B w.heap.size W0 w' cs _ fr i1 hne hBg hBr hBs i2 (by decide) (Ne.symm n1) (Ne.symm n2) (Ne.symm n3) (Nat.le_trans (Nat.le_of_lt hk) hs) d1 d2 d3).mono ?_
    rintro e w2 ⟨rfl, j1, j2⟩
    rw [← rmAt_succ s k hk] at j1
    exact ⟨rfl, ⟨j1, cs, fr, j2.trans i2⟩, j2⟩
  · rintro e w' ⟨rfl, i1, _⟩
    exact ⟨rfl, i1⟩
/-- what the first remark says, and the text without its remarks -/
def rmOut (s : ByteArray) : List UInt8 × List UInt8 := (unpairL (rmAt s s.size).2.2, (rmAt s s.size).2.1)
set_option maxHeartbeats 1600000 in
theorem remarked_any (s : ByteArray) (w : World) (hs : s.size ≤ 1048576) :
    Calls Tryz.prog 67 #[.string s] w fun e w' => e = .returned (.tuple #[.string (str (rmOut s).1), .string (str (rmOut s).2)]) ∧ Below w.heap.size w w' := by
  have S0 := Box.new w 45 (.slice none 0 0)
  have S1 := Box.new (w.alloc (.cells #[.slice none 0 0] 45)) 45 (.slice none 0 0)
  rw [World.size_alloc] at S1
  have S2 := Box.new ((w.alloc (.cells #[.slice none 0 0] 45)).alloc (.cells #[.slice none 0 0] 45)) 3 (.int .i64 0)
  rw [World.size_alloc, World.size_alloc] at S2
  have SB : Buf w.heap.size (.slice none 0 0) [] w (((w.alloc (.cells #[.slice none 0 0] 45)).alloc (.cells #[.slice none 0 0] 45)).alloc (.cells #[.int .i64 0] 3)) :=
    (((Buf.nil (B := w.heap.size) (Below.refl _ _) (Nat.le_refl _)).alloc _).alloc _).alloc _
  have C := hide (walk_rm s (w.heap.size + 2) (w.heap.size + 1) w.heap.size w.heap.size w _ hs ⟨S2, _, _, S1.alloc _, (S0.alloc _).alloc _, SB, SB, fun b h => by cases h⟩ (by omega) (by omega) (by omega) (Nat.le_refl _))
  obtain ⟨d1, d2, d3⟩ := rmAt_bd s s.size
  have HO : Hid (rmOut s = (unpairL (rmAt s s.size).2.2, (rmAt s s.size).2.1)) := hide rfl
  obtain ⟨⟨sg, rest, said⟩, hA⟩ : ∃ A, rmAt s s.size = A := ⟨_, rfl⟩
  rw [hA] at C d1 d2 d3 HO
  have HL : Hid (said.length ≤ 1048576) := hide (Nat.le_trans d3 hs)
  clear hA S0 S1 S2 SB d1 d2 d3 hs
  go_enter Tryz.func67, Tryz.ntmps67
  go_wp2_with (go_at_call 62; refine C.out.mono ?_; rintro e w1 ⟨rfl, hx⟩; obtain ⟨v1, v2, r1, r2, r3, r4, _⟩ := hx.rows; obtain ⟨A1, z1, rfl⟩ := r3.slice_len; obtain ⟨A2, z2, rfl⟩ := r4.slice_len; have c1 := r1.cell; have c2 := r2.cell; have cv1 := r3.drew.convert; have R1 := hide r1; have R2 := hide r2; have R3 : Hid (Buf w.heap.size (.slice A1 rest.length z1) rest w w1) := hide r3; have R4 : Hid (Buf w.heap.size (.slice A2 said.length z2) said w w1) := hide r4; clear r1 r2 r3 r4 hx)
  go_region_with (
    (refine (unpaired_any (R4.out.drew) HL.out).mono ?_; rintro e w2 ⟨rfl, hb2⟩; have c3 := (R1.out.drew.below hb2 R1.out.drew.lt).cell; have cv2 := (R3.out.drew.kept hb2).convert; have HB2 := hide hb2; clear hb2))
  all_goals
    try go_wp2_with fail
    go_ret2
    exact ⟨by rw [HO.out]; rfl, R3.out.drew.below.trans (HB2.out.mono R3.out.2.2)⟩
end Go.Proofs.YtnckbdkofbhilaaGreatDoor
