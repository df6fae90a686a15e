/- WALK of the reference's Value of layer 18. No statement is proved here. Own work of the verifier. -/
import Derived.Test.YtklbdobofclofaaGreatDoorRef18S
import Derived.Test.YtklbdobofclofaaGreatDoorRef18A
import Derived.Test.YtklbdobofclofaaGreatDoorCssX
import Derived.BigQuiet
import Derived.Deep.QuietTactic
namespace Go.Proofs.YtklbdobofclofaaGreatDoor
open Go.RowKit
set_option linter.unusedVariables false
set_option linter.unusedSimpArgs false
set_option maxRecDepth 100000
/-- an attribute in its box -/
def ABox (w : World) (b : Nat) (n v : ByteArray) : Prop := w.cell? ⟨b, 0, none⟩ = some (.string n) ∧ w.cell? ⟨b, 1, none⟩ = some (.string v)
theorem ABox.new (w : World) (n v : ByteArray) (t : TypeId) : ABox (w.alloc (.cells #[.string n, .string v] t)) w.heap.size n v := by
  refine ⟨?_, ?_⟩ <;> (rw [World.cell?_alloc_at _ _ _ _ rfl]; rfl)
theorem ABox.kept {w w' : World} {b : Nat} {n v : ByteArray} (h : ABox w b n v) (hb : Below w.heap.size w w') : ABox w' b n v := by
  obtain ⟨h0, h1⟩ := h
  exact ⟨(hb.cell (World.block_lt_of_cell? _ _ h0)).trans h0, (hb.cell (World.block_lt_of_cell? _ _ h1)).trans h1⟩
theorem keptT_any (v : ByteArray) (w : World) : Calls Tryz.prog 24 #[.string v, .bool true] w fun e w' => e = .returned (.tuple #[.string v, .bool true]) ∧ w = w' := kept18_any true v w
theorem keptF_any (v : ByteArray) (w : World) : Calls Tryz.prog 24 #[.string v, .bool false] w fun e w' => e = .returned (.tuple #[.string ⟨#[]⟩, .bool false]) ∧ w = w' := kept18_any false v w
set_option maxHeartbeats 4000000 in
theorem value18_title (r s q : Bool) (A : Option Addr) (F : List FileL) (cap : Nat) (e v : ByteArray) (w : World) (hF : FilesIn w (.slice A F.length cap) F) (hl : F.length ≤ 40) (hzf : ∀ f ∈ F, f.kind.length ≤ 10000) (hs : v.size ≤ 10000) (ha : attrB e.data.toList [116, 105, 116, 108, 101] = true) :
    Calls Tryz.prog 15 #[.agg #[.bool r, .bool s, .bool q], .slice A F.length cap, .string e, .agg #[.string ⟨#[116, 105, 116, 108, 101]⟩, .string v]] w fun x w' => x = .returned (valV (valN r s F [116, 105, 116, 108, 101] v.data.toList)) ∧ Below w.heap.size w w' := by
  have HF := hide hF
  have HL := hide hl
  have HZF := hide hzf
  have HS := hide hs
  have HAT : Hid (attrB e.data.toList (⟨#[116, 105, 116, 108, 101]⟩ : ByteArray).data.toList = true) := hide ha
  clear hF hl hzf hs ha
  obtain ⟨W, hW⟩ : ∃ W, ((w.alloc (.cells #[.bool r, .bool s, .bool q] 26)).alloc (.cells #[.string ⟨#[116, 105, 116, 108, 101]⟩, .string v] 29)) = W := ⟨_, rfl⟩
  have HP : Hid (PBox W w.heap.size r s q) := hide (by rw [← hW]; exact (PBox.new w r s q _).kept (alloc_below _ _))
  have HA : Hid (ABox W (w.heap.size + 1) ⟨#[116, 105, 116, 108, 101]⟩ v) := hide (by
    rw [← hW]
    have := ABox.new (w.alloc (.cells #[.bool r, .bool s, .bool q] 26)) ⟨#[116, 105, 116, 108, 101]⟩ v 29
    rw [World.size_alloc] at this
    exact this)
  have HB : Hid (Below w.heap.size w W) := hide (by
    rw [← hW]
    exact ((Below.refl _ _).alloc (Nat.le_refl _) _).alloc (by rw [World.size_alloc]; exact Nat.le_succ _) _)
  obtain ⟨c0, c1, c2⟩ := HP.out
  obtain ⟨d0, d1⟩ := HA.out
  go_enter Tryz.func15, Tryz.ntmps15
  go_wp2_with fail
  refine (ref18Attr_any e _ _).mono ?_
  rintro x w1 ⟨rfl, rfl⟩
  rw [HAT.out]
  clear hW
  go_wp2_with fail
  go_ret2
  exact ⟨by rw [show valN r s F [116, 105, 116, 108, 101] v.data.toList = some v.data.toList from rfl, valV_some]; rfl, HB.out⟩
set_option maxHeartbeats 4000000 in
theorem value18_dir (r s q : Bool) (A : Option Addr) (F : List FileL) (cap : Nat) (e v : ByteArray) (w : World) (hF : FilesIn w (.slice A F.length cap) F) (hl : F.length ≤ 40) (hzf : ∀ f ∈ F, f.kind.length ≤ 10000) (hs : v.size ≤ 10000) (ha : attrB e.data.toList [100, 105, 114] = true) :
    Calls Tryz.prog 15 #[.agg #[.bool r, .bool s, .bool q], .slice A F.length cap, .string e, .agg #[.string ⟨#[100, 105, 114]⟩, .string v]] w fun x w' => x = .returned (valV (valN r s F [100, 105, 114] v.data.toList)) ∧ Below w.heap.size w w' := by
  have HF := hide hF
  have HL := hide hl
  have HZF := hide hzf
  have HS := hide hs
  have HAT : Hid (attrB e.data.toList (⟨#[100, 105, 114]⟩ : ByteArray).data.toList = true) := hide ha
  clear hF hl hzf hs ha
  obtain ⟨W, hW⟩ : ∃ W, ((w.alloc (.cells #[.bool r, .bool s, .bool q] 26)).alloc (.cells #[.string ⟨#[100, 105, 114]⟩, .string v] 29)) = W := ⟨_, rfl⟩
  have HP : Hid (PBox W w.heap.size r s q) := hide (by rw [← hW]; exact (PBox.new w r s q _).kept (alloc_below _ _))
  have HA : Hid (ABox W (w.heap.size + 1) ⟨#[100, 105, 114]⟩ v) := hide (by
    rw [← hW]
    have := ABox.new (w.alloc (.cells #[.bool r, .bool s, .bool q] 26)) ⟨#[100, 105, 114]⟩ v 29
    rw [World.size_alloc] at this
    exact this)
  have HB : Hid (Below w.heap.size w W) := hide (by
    rw [← hW]
    exact ((Below.refl _ _).alloc (Nat.le_refl _) _).alloc (by rw [World.size_alloc]; exact Nat.le_succ _) _)
  cases h0 : (v.data.toList == [108, 116, 114]) with
  | true =>
    have t0 : (v.toList == [108, 116, 114]) = true := by rw [bytes_list]; exact h0
    have HR : Hid (valN r s F n_dir v.data.toList = some v.data.toList) := hide (by
      show keepO (dirB v.data.toList) v.data.toList = _
      unfold dirB keepO; rw [h0]; rfl)
    clear h0
    obtain ⟨c0, c1, c2⟩ := HP.out
    obtain ⟨d0, d1⟩ := HA.out
    go_enter Tryz.func15, Tryz.ntmps15
    go_wp2_with fail
    refine (ref18Attr_any e _ _).mono ?_
    rintro x w1 ⟨rfl, rfl⟩
    rw [HAT.out]
    clear hW
    go_wp2_with fail
    refine (keptT_any _ _).mono ?_
    rintro x wo ⟨rfl, rfl⟩
    go_wp2_with fail
    go_ret2
    exact ⟨by rw [show ([100, 105, 114] : List UInt8) = n_dir from rfl, HR.out, valV_some]; rfl, HB.out⟩
  | false =>
    cases h1 : (v.data.toList == [114, 116, 108]) with
    | true =>
      have t0 : (v.toList == [108, 116, 114]) = false := by rw [bytes_list]; exact h0
      have t1 : (v.toList == [114, 116, 108]) = true := by rw [bytes_list]; exact h1
      have HR : Hid (valN r s F n_dir v.data.toList = some v.data.toList) := hide (by
        show keepO (dirB v.data.toList) v.data.toList = _
        unfold dirB keepO; rw [h0, h1]; rfl)
      clear h0 h1
      obtain ⟨c0, c1, c2⟩ := HP.out
      obtain ⟨d0, d1⟩ := HA.out
      go_enter Tryz.func15, Tryz.ntmps15
      go_wp2_with fail
      refine (ref18Attr_any e _ _).mono ?_
      rintro x w1 ⟨rfl, rfl⟩
      rw [HAT.out]
      clear hW
      go_wp2_with fail
      refine (keptT_any _ _).mono ?_
      rintro x wo ⟨rfl, rfl⟩
      go_wp2_with fail
      go_ret2
      exact ⟨by rw [show ([100, 105, 114] : List UInt8) = n_dir from rfl, HR.out, valV_some]; rfl, HB.out⟩
    | false =>
      cases h2 : (v.data.toList == [97, 117, 116, 111]) with
      | true =>
        have t0 : (v.toList == [108, 116, 114]) = false := by rw [bytes_list]; exact h0
        have t1 : (v.toList == [114, 116, 108]) = false := by rw [bytes_list]; exact h1
        have t2 : (v.toList == [97, 117, 116, 111]) = true := by rw [bytes_list]; exact h2
        have HR : Hid (valN r s F n_dir v.data.toList = some v.data.toList) := hide (by
          show keepO (dirB v.data.toList) v.data.toList = _
          unfold dirB keepO; rw [h0, h1, h2]; rfl)
        clear h0 h1 h2
        obtain ⟨c0, c1, c2⟩ := HP.out
        obtain ⟨d0, d1⟩ := HA.out
        go_enter Tryz.func15, Tryz.ntmps15
        go_wp2_with fail
        refine (ref18Attr_any e _ _).mono ?_
        rintro x w1 ⟨rfl, rfl⟩
        rw [HAT.out]
        clear hW
        go_wp2_with fail
        refine (keptT_any _ _).mono ?_
        rintro x wo ⟨rfl, rfl⟩
        go_wp2_with fail
        go_ret2
        exact ⟨by rw [show ([100, 105, 114] : List UInt8) = n_dir from rfl, HR.out, valV_some]; rfl, HB.out⟩
      | false =>
        have t0 : (v.toList == [108, 116, 114]) = false := by rw [bytes_list]; exact h0
        have t1 : (v.toList == [114, 116, 108]) = false := by rw [bytes_list]; exact h1
        have t2 : (v.toList == [97, 117, 116, 111]) = false := by rw [bytes_list]; exact h2
        have HR : Hid (valN r s F n_dir v.data.toList = none) := hide (by
          show keepO (dirB v.data.toList) v.data.toList = _
          unfold dirB keepO; rw [h0, h1, h2]; rfl)
        clear h0 h1 h2
        obtain ⟨c0, c1, c2⟩ := HP.out
        obtain ⟨d0, d1⟩ := HA.out
        go_enter Tryz.func15, Tryz.ntmps15
        go_wp2_with fail
        refine (ref18Attr_any e _ _).mono ?_
        rintro x w1 ⟨rfl, rfl⟩
        rw [HAT.out]
        clear hW
        go_wp2_with fail
        refine (keptF_any _ _).mono ?_
        rintro x wo ⟨rfl, rfl⟩
        go_wp2_with fail
        go_ret2
        exact ⟨by rw [show ([100, 105, 114] : List UInt8) = n_dir from rfl, HR.out]; rfl, HB.out⟩
set_option maxHeartbeats 4000000 in
theorem value18_lang (r s q : Bool) (A : Option Addr) (F : List FileL) (cap : Nat) (e v : ByteArray) (w : World) (hF : FilesIn w (.slice A F.length cap) F) (hl : F.length ≤ 40) (hzf : ∀ f ∈ F, f.kind.length ≤ 10000) (hs : v.size ≤ 10000) (ha : attrB e.data.toList [108, 97, 110, 103] = true) :
    Calls Tryz.prog 15 #[.agg #[.bool r, .bool s, .bool q], .slice A F.length cap, .string e, .agg #[.string ⟨#[108, 97, 110, 103]⟩, .string v]] w fun x w' => x = .returned (valV (valN r s F [108, 97, 110, 103] v.data.toList)) ∧ Below w.heap.size w w' := by
  have HF := hide hF
  have HL := hide hl
  have HZF := hide hzf
  have HS := hide hs
  have HAT : Hid (attrB e.data.toList (⟨#[108, 97, 110, 103]⟩ : ByteArray).data.toList = true) := hide ha
  clear hF hl hzf hs ha
  obtain ⟨W, hW⟩ : ∃ W, ((w.alloc (.cells #[.bool r, .bool s, .bool q] 26)).alloc (.cells #[.string ⟨#[108, 97, 110, 103]⟩, .string v] 29)) = W := ⟨_, rfl⟩
  have HP : Hid (PBox W w.heap.size r s q) := hide (by rw [← hW]; exact (PBox.new w r s q _).kept (alloc_below _ _))
  have HA : Hid (ABox W (w.heap.size + 1) ⟨#[108, 97, 110, 103]⟩ v) := hide (by
    rw [← hW]
    have := ABox.new (w.alloc (.cells #[.bool r, .bool s, .bool q] 26)) ⟨#[108, 97, 110, 103]⟩ v 29
    rw [World.size_alloc] at this
    exact this)
  have HB : Hid (Below w.heap.size w W) := hide (by
    rw [← hW]
    exact ((Below.refl _ _).alloc (Nat.le_refl _) _).alloc (by rw [World.size_alloc]; exact Nat.le_succ _) _)
  have HCB := hide (fun w2 => lang18_any v w2 (Nat.le_trans HS.out (by decide)))
  cases hb : langB v.data.toList with
  | true =>
    have HR : Hid (valN r s F [108, 97, 110, 103] v.data.toList = some v.data.toList) := hide (by
      show keepO (langB v.data.toList) v.data.toList = _
      rw [hb]; rfl)
    rw [hb] at HCB
    clear hb
    have HCQ : Hid (∀ k, Calls Tryz.prog 28 #[.string v] (W.drewN k) fun x w' => x = .returned (.bool true) ∧ w' = W.drewN k) := hide (fun k => (HCB.out _).mono (fun _ _ h => ⟨h.1, h.2.symm⟩))
    have HKQ : Hid (∀ k, Calls Tryz.prog 24 #[.string v, .bool true] (W.drewN k) fun x w' => x = .returned (.tuple #[.string v, .bool true]) ∧ w' = W.drewN k) := hide (fun k => (keptT_any v _).mono (fun _ _ h => ⟨h.1, h.2.symm⟩))
    obtain ⟨c0, c1, c2⟩ := HP.out
    obtain ⟨d0, d1⟩ := HA.out
    go_enter Tryz.func15, Tryz.ntmps15
    go_wp2_with fail
    refine (ref18Attr_any e _ _).mono ?_
    rintro x w1 ⟨rfl, rfl⟩
    rw [HAT.out]
    clear hW
    go_wp2_with fail
    go_quiet ((first
      | (go_at_call 28; exact Calls.quiet_of_same (HCQ.out _))
      | (go_at_call 24; exact Calls.quiet_of_same (HKQ.out _))))
    try go_wp2_with fail
    go_ret2
    exact ⟨by rw [HR.out, valV_some]; rfl, HB.out.trans ⟨rfl, rfl, rfl, Nat.le_refl _, fun _ _ => rfl⟩⟩
  | false =>
    have HR : Hid (valN r s F [108, 97, 110, 103] v.data.toList = none) := hide (by
      show keepO (langB v.data.toList) v.data.toList = _
      rw [hb]; rfl)
    rw [hb] at HCB
    clear hb
    have HCQ : Hid (∀ k, Calls Tryz.prog 28 #[.string v] (W.drewN k) fun x w' => x = .returned (.bool false) ∧ w' = W.drewN k) := hide (fun k => (HCB.out _).mono (fun _ _ h => ⟨h.1, h.2.symm⟩))
    have HKQ : Hid (∀ k, Calls Tryz.prog 24 #[.string v, .bool false] (W.drewN k) fun x w' => x = .returned (.tuple #[.string ⟨#[]⟩, .bool false]) ∧ w' = W.drewN k) := hide (fun k => (keptF_any v _).mono (fun _ _ h => ⟨h.1, h.2.symm⟩))
    obtain ⟨c0, c1, c2⟩ := HP.out
    obtain ⟨d0, d1⟩ := HA.out
    go_enter Tryz.func15, Tryz.ntmps15
    go_wp2_with fail
    refine (ref18Attr_any e _ _).mono ?_
    rintro x w1 ⟨rfl, rfl⟩
    rw [HAT.out]
    clear hW
    go_wp2_with fail
    go_quiet ((first
      | (go_at_call 28; exact Calls.quiet_of_same (HCQ.out _))
      | (go_at_call 24; exact Calls.quiet_of_same (HKQ.out _))))
    try go_wp2_with fail
    go_ret2
    exact ⟨by rw [HR.out]; rfl, HB.out.trans ⟨rfl, rfl, rfl, Nat.le_refl _, fun _ _ => rfl⟩⟩
set_option maxHeartbeats 4000000 in
theorem value18_style (r s q : Bool) (A : Option Addr) (F : List FileL) (cap : Nat) (e v : ByteArray) (w : World) (hF : FilesIn w (.slice A F.length cap) F) (hl : F.length ≤ 40) (hzf : ∀ f ∈ F, f.kind.length ≤ 10000) (hs : v.size ≤ 10000) (ha : attrB e.data.toList [115, 116, 121, 108, 101] = true) :
    Calls Tryz.prog 15 #[.agg #[.bool r, .bool s, .bool q], .slice A F.length cap, .string e, .agg #[.string ⟨#[115, 116, 121, 108, 101]⟩, .string v]] w fun x w' => x = .returned (valV (valN r s F [115, 116, 121, 108, 101] v.data.toList)) ∧ Below w.heap.size w w' := by
  have HF := hide hF
  have HL := hide hl
  have HZF := hide hzf
  have HS := hide hs
  have HAT : Hid (attrB e.data.toList (⟨#[115, 116, 121, 108, 101]⟩ : ByteArray).data.toList = true) := hide ha
  clear hF hl hzf hs ha
  obtain ⟨W, hW⟩ : ∃ W, ((w.alloc (.cells #[.bool r, .bool s, .bool q] 26)).alloc (.cells #[.string ⟨#[115, 116, 121, 108, 101]⟩, .string v] 29)) = W := ⟨_, rfl⟩
  have HP : Hid (PBox W w.heap.size r s q) := hide (by rw [← hW]; exact (PBox.new w r s q _).kept (alloc_below _ _))
  have HA : Hid (ABox W (w.heap.size + 1) ⟨#[115, 116, 121, 108, 101]⟩ v) := hide (by
    rw [← hW]
    have := ABox.new (w.alloc (.cells #[.bool r, .bool s, .bool q] 26)) ⟨#[115, 116, 121, 108, 101]⟩ v 29
    rw [World.size_alloc] at this
    exact this)
  have HB : Hid (Below w.heap.size w W) := hide (by
    rw [← hW]
    exact ((Below.refl _ _).alloc (Nat.le_refl _) _).alloc (by rw [World.size_alloc]; exact Nat.le_succ _) _)
  have HC := hide (fun w2 => ref17Clean_any v w2 (Nat.le_trans HS.out (by decide)))
  obtain ⟨C, hC⟩ : ∃ C, str (cleanD v.data.toList) = C := ⟨_, rfl⟩
  have hCl : cleanD v.data.toList = C.data.toList := by rw [← hC, str_toList]
  rw [hC] at HC
  by_cases hz : C.size = 0
  · have e1 : C.toList.isEmpty = true := (size0 hz).2
    have e2 : (!C.toList.isEmpty) = false := by rw [e1]; rfl
    have HR : Hid (valN r s F n_style v.data.toList = none) := hide (by
      show keepO (styleB s v.data.toList) (cleanD v.data.toList) = _
      unfold styleB keepO; rw [hCl, ← bytes_list, e1]; simp)
    clear hCl hC hz
    cases s
    all_goals
      obtain ⟨c0, c1, c2⟩ := HP.out
      obtain ⟨d0, d1⟩ := HA.out
      go_enter Tryz.func15, Tryz.ntmps15
      go_wp2_with fail
      refine (ref18Attr_any e _ _).mono ?_
      rintro x w1 ⟨rfl, rfl⟩
      rw [HAT.out]
      clear hW
      go_wp2_with fail
      refine (HC.out _).mono ?_
      rintro x w2 ⟨rfl, hb2⟩
      clear c0 c1 c2 d0 d1
      have HP2 := hide (HP.out.kept hb2)
      have HA2 := hide (HA.out.kept hb2)
      obtain ⟨c0, c1, c2⟩ := HP2.out
      obtain ⟨d0, d1⟩ := HA2.out
      have HB2 := hide (HB.out.trans (hb2.mono HB.out.size))
      clear hb2
      go_wp2_with fail
      refine (keptF_any _ _).mono ?_
      rintro x wo ⟨rfl, rfl⟩
      go_wp2_with fail
      go_ret2
      exact ⟨by rw [show ([115, 116, 121, 108, 101] : List UInt8) = n_style from rfl, HR.out]; rfl, HB2.out⟩
  · have e1 : C.toList.isEmpty = false := (sizeP hz).2
    have e2 : (!C.toList.isEmpty) = true := by rw [e1]; rfl
    have HR : Hid (valN r s F n_style v.data.toList = keepO s C.data.toList) := hide (by
      show keepO (styleB s v.data.toList) (cleanD v.data.toList) = _
      unfold styleB; rw [hCl, ← bytes_list, e1]; simp)
    clear hCl hC hz
    cases s
    · obtain ⟨c0, c1, c2⟩ := HP.out
      obtain ⟨d0, d1⟩ := HA.out
      go_enter Tryz.func15, Tryz.ntmps15
      go_wp2_with fail
      refine (ref18Attr_any e _ _).mono ?_
      rintro x w1 ⟨rfl, rfl⟩
      rw [HAT.out]
      clear hW
      go_wp2_with fail
      refine (HC.out _).mono ?_
      rintro x w2 ⟨rfl, hb2⟩
      clear c0 c1 c2 d0 d1
      have HP2 := hide (HP.out.kept hb2)
      have HA2 := hide (HA.out.kept hb2)
      obtain ⟨c0, c1, c2⟩ := HP2.out
      obtain ⟨d0, d1⟩ := HA2.out
      have HB2 := hide (HB.out.trans (hb2.mono HB.out.size))
      clear hb2
      go_wp2_with fail
      refine (keptF_any _ _).mono ?_
      rintro x wo ⟨rfl, rfl⟩
      go_wp2_with fail
      go_ret2
      exact ⟨by rw [show ([115, 116, 121, 108, 101] : List UInt8) = n_style from rfl, HR.out]; rfl, HB2.out⟩
    · obtain ⟨c0, c1, c2⟩ := HP.out
      obtain ⟨d0, d1⟩ := HA.out
      go_enter Tryz.func15, Tryz.ntmps15
      go_wp2_with fail
      refine (ref18Attr_any e _ _).mono ?_
      rintro x w1 ⟨rfl, rfl⟩
      rw [HAT.out]
      clear hW
      go_wp2_with fail
      refine (HC.out _).mono ?_
      rintro x w2 ⟨rfl, hb2⟩
      clear c0 c1 c2 d0 d1
      have HP2 := hide (HP.out.kept hb2)
      have HA2 := hide (HA.out.kept hb2)
      obtain ⟨c0, c1, c2⟩ := HP2.out
      obtain ⟨d0, d1⟩ := HA2.out
      have HB2 := hide (HB.out.trans (hb2.mono HB.out.size))
      clear hb2
      go_wp2_with fail
      refine (keptT_any _ _).mono ?_
      rintro x wo ⟨rfl, rfl⟩
      go_wp2_with fail
      go_ret2
      exact ⟨by rw [show ([115, 116, 121, 108, 101] : List UInt8) = n_style from rfl, HR.out, keepO_true _ rfl, valV_some]; rfl, HB2.out⟩
set_option maxHeartbeats 4000000 in
theorem value18_href (r s q : Bool) (A : Option Addr) (F : List FileL) (cap : Nat) (e v : ByteArray) (w : World) (hF : FilesIn w (.slice A F.length cap) F) (hl : F.length ≤ 40) (hzf : ∀ f ∈ F, f.kind.length ≤ 10000) (hs : v.size ≤ 10000) (ha : attrB e.data.toList [104, 114, 101, 102] = true) :
    Calls Tryz.prog 15 #[.agg #[.bool r, .bool s, .bool q], .slice A F.length cap, .string e, .agg #[.string ⟨#[104, 114, 101, 102]⟩, .string v]] w fun x w' => x = .returned (valV (valN r s F [104, 114, 101, 102] v.data.toList)) ∧ Below w.heap.size w w' := by
  have HF := hide hF
  have HL := hide hl
  have HZF := hide hzf
  have HS := hide hs
  have HAT : Hid (attrB e.data.toList (⟨#[104, 114, 101, 102]⟩ : ByteArray).data.toList = true) := hide ha
  clear hF hl hzf hs ha
  obtain ⟨W, hW⟩ : ∃ W, ((w.alloc (.cells #[.bool r, .bool s, .bool q] 26)).alloc (.cells #[.string ⟨#[104, 114, 101, 102]⟩, .string v] 29)) = W := ⟨_, rfl⟩
  have HP : Hid (PBox W w.heap.size r s q) := hide (by rw [← hW]; exact (PBox.new w r s q _).kept (alloc_below _ _))
  have HA : Hid (ABox W (w.heap.size + 1) ⟨#[104, 114, 101, 102]⟩ v) := hide (by
    rw [← hW]
    have := ABox.new (w.alloc (.cells #[.bool r, .bool s, .bool q] 26)) ⟨#[104, 114, 101, 102]⟩ v 29
    rw [World.size_alloc] at this
    exact this)
  have HB : Hid (Below w.heap.size w W) := hide (by
    rw [← hW]
    exact ((Below.refl _ _).alloc (Nat.le_refl _) _).alloc (by rw [World.size_alloc]; exact Nat.le_succ _) _)
  have HKC := hide (fun w2 => ref16Kind_any v w2 (Nat.le_trans HS.out (by decide)))
  have HCL := hide (fun w2 => ref16Clean_any v w2 (Nat.le_trans HS.out (by decide)))
  obtain ⟨K, hK⟩ : ∃ K, lkKind (lkClean v.data.toList) = K := ⟨_, rfl⟩
  rw [hK] at HKC
  by_cases k1 : 1 ≤ K
  · have g1 : decide ((1 : Int) ≤ (K : Int)) = true := decide_eq_true (by omega)
    by_cases k3 : K ≤ 3
    · have g2 : decide ((K : Int) ≤ 3) = true := decide_eq_true (by omega)
      have HKB : (decide (1 ≤ K) && decide (K ≤ 3)) = true := by rw [decide_eq_true k1, decide_eq_true k3]; rfl
      clear k1 k3
      have HR : Hid (valN r s F n_href v.data.toList = some (lkClean v.data.toList)) := hide (by
        show keepO (hrefB v.data.toList) (lkClean v.data.toList) = _
        unfold hrefB keepO; rw [hK, HKB]; rfl)
      clear HKB hK
      obtain ⟨c0, c1, c2⟩ := HP.out
      obtain ⟨d0, d1⟩ := HA.out
      go_enter Tryz.func15, Tryz.ntmps15
      go_wp2_with fail
      refine (ref18Attr_any e _ _).mono ?_
      rintro x w1 ⟨rfl, rfl⟩
      rw [HAT.out]
      clear hW
      go_wp2_with fail
      refine (HKC.out _).mono ?_
      rintro x w2 ⟨rfl, hb2⟩
      clear c0 c1 c2 d0 d1
      have HP2 := hide (HP.out.kept hb2)
      have HA2 := hide (HA.out.kept hb2)
      obtain ⟨c0, c1, c2⟩ := HP2.out
      obtain ⟨d0, d1⟩ := HA2.out
      have HB2 := hide (HB.out.trans (hb2.mono HB.out.size))
      clear hb2
      go_wp2_with fail
      refine (HCL.out _).mono ?_
      rintro x w3 ⟨rfl, hb3⟩
      clear c0 c1 c2 d0 d1
      have HP3 := hide (HP2.out.kept hb3)
      have HA3 := hide (HA2.out.kept hb3)
      obtain ⟨c0, c1, c2⟩ := HP3.out
      obtain ⟨d0, d1⟩ := HA3.out
      have HB3 := hide (HB2.out.trans (hb3.mono HB2.out.size))
      clear hb3
      go_wp2_with fail
      refine (keptT_any _ _).mono ?_
      rintro x wo ⟨rfl, rfl⟩
      go_wp2_with fail
      go_ret2
      exact ⟨by rw [show ([104, 114, 101, 102] : List UInt8) = n_href from rfl, HR.out]; rfl, HB3.out⟩
    · have g2 : decide ((K : Int) ≤ 3) = false := decide_eq_false (by omega)
      have HKB : (decide (1 ≤ K) && decide (K ≤ 3)) = false := by rw [decide_eq_true k1, decide_eq_false k3]; rfl
      clear k1 k3
      have HR : Hid (valN r s F n_href v.data.toList = none) := hide (by
        show keepO (hrefB v.data.toList) (lkClean v.data.toList) = _
        unfold hrefB keepO; rw [hK, HKB]; rfl)
      clear HKB hK
      obtain ⟨c0, c1, c2⟩ := HP.out
      obtain ⟨d0, d1⟩ := HA.out
      go_enter Tryz.func15, Tryz.ntmps15
      go_wp2_with fail
      refine (ref18Attr_any e _ _).mono ?_
      rintro x w1 ⟨rfl, rfl⟩
      rw [HAT.out]
      clear hW
      go_wp2_with fail
      refine (HKC.out _).mono ?_
      rintro x w2 ⟨rfl, hb2⟩
      clear c0 c1 c2 d0 d1
      have HP2 := hide (HP.out.kept hb2)
      have HA2 := hide (HA.out.kept hb2)
      obtain ⟨c0, c1, c2⟩ := HP2.out
      obtain ⟨d0, d1⟩ := HA2.out
      have HB2 := hide (HB.out.trans (hb2.mono HB.out.size))
      clear hb2
      go_wp2_with fail
      refine (HCL.out _).mono ?_
      rintro x w3 ⟨rfl, hb3⟩
      clear c0 c1 c2 d0 d1
      have HP3 := hide (HP2.out.kept hb3)
      have HA3 := hide (HA2.out.kept hb3)
      obtain ⟨c0, c1, c2⟩ := HP3.out
      obtain ⟨d0, d1⟩ := HA3.out
      have HB3 := hide (HB2.out.trans (hb3.mono HB2.out.size))
      clear hb3
      go_wp2_with fail
      refine (keptF_any _ _).mono ?_
      rintro x wo ⟨rfl, rfl⟩
      go_wp2_with fail
      go_ret2
      exact ⟨by rw [show ([104, 114, 101, 102] : List UInt8) = n_href from rfl, HR.out]; rfl, HB3.out⟩
  · have g1 : decide ((1 : Int) ≤ (K : Int)) = false := decide_eq_false (by omega)
    have HKB : (decide (1 ≤ K) && decide (K ≤ 3)) = false := by rw [decide_eq_false k1]; rfl
    clear k1
    have HR : Hid (valN r s F n_href v.data.toList = none) := hide (by
      show keepO (hrefB v.data.toList) (lkClean v.data.toList) = _
      unfold hrefB keepO; rw [hK, HKB]; rfl)
    clear HKB hK
    obtain ⟨c0, c1, c2⟩ := HP.out
    obtain ⟨d0, d1⟩ := HA.out
    go_enter Tryz.func15, Tryz.ntmps15
    go_wp2_with fail
    refine (ref18Attr_any e _ _).mono ?_
    rintro x w1 ⟨rfl, rfl⟩
    rw [HAT.out]
    clear hW
    go_wp2_with fail
    refine (HKC.out _).mono ?_
    rintro x w2 ⟨rfl, hb2⟩
    clear c0 c1 c2 d0 d1
    have HP2 := hide (HP.out.kept hb2)
    have HA2 := hide (HA.out.kept hb2)
    obtain ⟨c0, c1, c2⟩ := HP2.out
    obtain ⟨d0, d1⟩ := HA2.out
    have HB2 := hide (HB.out.trans (hb2.mono HB.out.size))
    clear hb2
    go_wp2_with fail
    refine (HCL.out _).mono ?_
    rintro x w3 ⟨rfl, hb3⟩
    clear c0 c1 c2 d0 d1
    have HP3 := hide (HP2.out.kept hb3)
    have HA3 := hide (HA2.out.kept hb3)
    obtain ⟨c0, c1, c2⟩ := HP3.out
    obtain ⟨d0, d1⟩ := HA3.out
    have HB3 := hide (HB2.out.trans (hb3.mono HB2.out.size))
    clear hb3
    go_wp2_with fail
    refine (keptF_any _ _).mono ?_
    rintro x wo ⟨rfl, rfl⟩
    go_wp2_with fail
    go_ret2
    exact ⟨by rw [show ([104, 114, 101, 102] : List UInt8) = n_href from rfl, HR.out]; rfl, HB3.out⟩
set_option maxHeartbeats 4000000 in
theorem value18_src (r s q : Bool) (A : Option Addr) (F : List FileL) (cap : Nat) (e v : ByteArray) (w : World) (hF : FilesIn w (.slice A F.length cap) F) (hl : F.length ≤ 40) (hzf : ∀ f ∈ F, f.kind.length ≤ 10000) (hs : v.size ≤ 10000) (ha : attrB e.data.toList [115, 114, 99] = true) :
    Calls Tryz.prog 15 #[.agg #[.bool r, .bool s, .bool q], .slice A F.length cap, .string e, .agg #[.string ⟨#[115, 114, 99]⟩, .string v]] w fun x w' => x = .returned (valV (valN r s F [115, 114, 99] v.data.toList)) ∧ Below w.heap.size w w' := by
  have HF := hide hF
  have HL := hide hl
  have HZF := hide hzf
  have HS := hide hs
  have HAT : Hid (attrB e.data.toList (⟨#[115, 114, 99]⟩ : ByteArray).data.toList = true) := hide ha
  clear hF hl hzf hs ha
  obtain ⟨W, hW⟩ : ∃ W, ((w.alloc (.cells #[.bool r, .bool s, .bool q] 26)).alloc (.cells #[.string ⟨#[115, 114, 99]⟩, .string v] 29)) = W := ⟨_, rfl⟩
  have HP : Hid (PBox W w.heap.size r s q) := hide (by rw [← hW]; exact (PBox.new w r s q _).kept (alloc_below _ _))
  have HA : Hid (ABox W (w.heap.size + 1) ⟨#[115, 114, 99]⟩ v) := hide (by
    rw [← hW]
    have := ABox.new (w.alloc (.cells #[.bool r, .bool s, .bool q] 26)) ⟨#[115, 114, 99]⟩ v 29
    rw [World.size_alloc] at this
    exact this)
  have HB : Hid (Below w.heap.size w W) := hide (by
    rw [← hW]
    exact ((Below.refl _ _).alloc (Nat.le_refl _) _).alloc (by rw [World.size_alloc]; exact Nat.le_succ _) _)
  have HSC := hide (fun w2 hw2 => src18_any r s q A F cap v w2 (HF.out.kept hw2) HL.out HZF.out HS.out)
  obtain ⟨o, ho⟩ : ∃ o, srcR r F (lkClean v.data.toList) = o := ⟨_, rfl⟩
  obtain ⟨S, hS⟩ : ∃ S, str (o.getD []) = S := ⟨_, rfl⟩
  obtain ⟨b, hb⟩ : ∃ b, o.isSome = b := ⟨_, rfl⟩
  have HV : Hid (valV o = .tuple #[.string S, .bool b]) := hide (by unfold valV; rw [hS, hb])
  rw [ho, HV.out] at HSC
  have HR : Hid (valN r s F n_src v.data.toList = o) := hide (by
    show srcL r F (lkClean v.data.toList) = _
    rw [src_ref r F _ (Nat.le_trans HL.out (by decide)), ho])
  clear ho hS hb
  obtain ⟨c0, c1, c2⟩ := HP.out
  obtain ⟨d0, d1⟩ := HA.out
  go_enter Tryz.func15, Tryz.ntmps15
  go_wp2_with fail
  refine (ref18Attr_any e _ _).mono ?_
  rintro x w1 ⟨rfl, rfl⟩
  rw [HAT.out]
  clear hW
  go_wp2_with fail
  refine (HSC.out _ HB.out).mono ?_
  rintro x w3 ⟨rfl, hb3⟩
  have HB3 := hide (HB.out.trans (hb3.mono HB.out.size))
  clear hb3
  go_wp2_with fail
  go_ret2
  exact ⟨by rw [show ([115, 114, 99] : List UInt8) = n_src from rfl, HR.out, HV.out]; rfl, HB3.out⟩
set_option maxHeartbeats 4000000 in
theorem value18_alt (r s q : Bool) (A : Option Addr) (F : List FileL) (cap : Nat) (e v : ByteArray) (w : World) (hF : FilesIn w (.slice A F.length cap) F) (hl : F.length ≤ 40) (hzf : ∀ f ∈ F, f.kind.length ≤ 10000) (hs : v.size ≤ 10000) (ha : attrB e.data.toList [97, 108, 116] = true) :
    Calls Tryz.prog 15 #[.agg #[.bool r, .bool s, .bool q], .slice A F.length cap, .string e, .agg #[.string ⟨#[97, 108, 116]⟩, .string v]] w fun x w' => x = .returned (valV (valN r s F [97, 108, 116] v.data.toList)) ∧ Below w.heap.size w w' := by
  have HF := hide hF
  have HL := hide hl
  have HZF := hide hzf
  have HS := hide hs
  have HAT : Hid (attrB e.data.toList (⟨#[97, 108, 116]⟩ : ByteArray).data.toList = true) := hide ha
  clear hF hl hzf hs ha
  obtain ⟨W, hW⟩ : ∃ W, ((w.alloc (.cells #[.bool r, .bool s, .bool q] 26)).alloc (.cells #[.string ⟨#[97, 108, 116]⟩, .string v] 29)) = W := ⟨_, rfl⟩
  have HP : Hid (PBox W w.heap.size r s q) := hide (by rw [← hW]; exact (PBox.new w r s q _).kept (alloc_below _ _))
  have HA : Hid (ABox W (w.heap.size + 1) ⟨#[97, 108, 116]⟩ v) := hide (by
    rw [← hW]
    have := ABox.new (w.alloc (.cells #[.bool r, .bool s, .bool q] 26)) ⟨#[97, 108, 116]⟩ v 29
    rw [World.size_alloc] at this
    exact this)
  have HB : Hid (Below w.heap.size w W) := hide (by
    rw [← hW]
    exact ((Below.refl _ _).alloc (Nat.le_refl _) _).alloc (by rw [World.size_alloc]; exact Nat.le_succ _) _)
  obtain ⟨c0, c1, c2⟩ := HP.out
  obtain ⟨d0, d1⟩ := HA.out
  go_enter Tryz.func15, Tryz.ntmps15
  go_wp2_with fail
  refine (ref18Attr_any e _ _).mono ?_
  rintro x w1 ⟨rfl, rfl⟩
  rw [HAT.out]
  clear hW
  go_wp2_with fail
  go_ret2
  exact ⟨by rw [show valN r s F [97, 108, 116] v.data.toList = some v.data.toList from rfl, valV_some]; rfl, HB.out⟩
set_option maxHeartbeats 4000000 in
theorem value18_width (r s q : Bool) (A : Option Addr) (F : List FileL) (cap : Nat) (e v : ByteArray) (w : World) (hF : FilesIn w (.slice A F.length cap) F) (hl : F.length ≤ 40) (hzf : ∀ f ∈ F, f.kind.length ≤ 10000) (hs : v.size ≤ 10000) (ha : attrB e.data.toList [119, 105, 100, 116, 104] = true) :
    Calls Tryz.prog 15 #[.agg #[.bool r, .bool s, .bool q], .slice A F.length cap, .string e, .agg #[.string ⟨#[119, 105, 100, 116, 104]⟩, .string v]] w fun x w' => x = .returned (valV (valN r s F [119, 105, 100, 116, 104] v.data.toList)) ∧ Below w.heap.size w w' := by
  have HF := hide hF
  have HL := hide hl
  have HZF := hide hzf
  have HS := hide hs
  have HAT : Hid (attrB e.data.toList (⟨#[119, 105, 100, 116, 104]⟩ : ByteArray).data.toList = true) := hide ha
  clear hF hl hzf hs ha
  obtain ⟨W, hW⟩ : ∃ W, ((w.alloc (.cells #[.bool r, .bool s, .bool q] 26)).alloc (.cells #[.string ⟨#[119, 105, 100, 116, 104]⟩, .string v] 29)) = W := ⟨_, rfl⟩
  have HP : Hid (PBox W w.heap.size r s q) := hide (by rw [← hW]; exact (PBox.new w r s q _).kept (alloc_below _ _))
  have HA : Hid (ABox W (w.heap.size + 1) ⟨#[119, 105, 100, 116, 104]⟩ v) := hide (by
    rw [← hW]
    have := ABox.new (w.alloc (.cells #[.bool r, .bool s, .bool q] 26)) ⟨#[119, 105, 100, 116, 104]⟩ v 29
    rw [World.size_alloc] at this
    exact this)
  have HB : Hid (Below w.heap.size w W) := hide (by
    rw [← hW]
    exact ((Below.refl _ _).alloc (Nat.le_refl _) _).alloc (by rw [World.size_alloc]; exact Nat.le_succ _) _)
  have HCB := hide (fun w2 => digits18_any v w2 (Nat.le_trans HS.out (by decide)))
  cases hb : digsB v.data.toList with
  | true =>
    have HR : Hid (valN r s F [119, 105, 100, 116, 104] v.data.toList = some v.data.toList) := hide (by
      show keepO (digsB v.data.toList) v.data.toList = _
      rw [hb]; rfl)
    rw [hb] at HCB
    clear hb
    have HCQ : Hid (∀ k, Calls Tryz.prog 29 #[.string v] (W.drewN k) fun x w' => x = .returned (.bool true) ∧ w' = W.drewN k) := hide (fun k => (HCB.out _).mono (fun _ _ h => ⟨h.1, h.2.symm⟩))
    have HKQ : Hid (∀ k, Calls Tryz.prog 24 #[.string v, .bool true] (W.drewN k) fun x w' => x = .returned (.tuple #[.string v, .bool true]) ∧ w' = W.drewN k) := hide (fun k => (keptT_any v _).mono (fun _ _ h => ⟨h.1, h.2.symm⟩))
    obtain ⟨c0, c1, c2⟩ := HP.out
    obtain ⟨d0, d1⟩ := HA.out
    go_enter Tryz.func15, Tryz.ntmps15
    go_wp2_with fail
    refine (ref18Attr_any e _ _).mono ?_
    rintro x w1 ⟨rfl, rfl⟩
    rw [HAT.out]
    clear hW
    go_wp2_with fail
    go_quiet ((first
      | (go_at_call 29; exact Calls.quiet_of_same (HCQ.out _))
      | (go_at_call 24; exact Calls.quiet_of_same (HKQ.out _))))
    try go_wp2_with fail
    go_ret2
    exact ⟨by rw [HR.out, valV_some]; rfl, HB.out.trans ⟨rfl, rfl, rfl, Nat.le_refl _, fun _ _ => rfl⟩⟩
  | false =>
    have HR : Hid (valN r s F [119, 105, 100, 116, 104] v.data.toList = none) := hide (by
      show keepO (digsB v.data.toList) v.data.toList = _
      rw [hb]; rfl)
    rw [hb] at HCB
    clear hb
    have HCQ : Hid (∀ k, Calls Tryz.prog 29 #[.string v] (W.drewN k) fun x w' => x = .returned (.bool false) ∧ w' = W.drewN k) := hide (fun k => (HCB.out _).mono (fun _ _ h => ⟨h.1, h.2.symm⟩))
    have HKQ : Hid (∀ k, Calls Tryz.prog 24 #[.string v, .bool false] (W.drewN k) fun x w' => x = .returned (.tuple #[.string ⟨#[]⟩, .bool false]) ∧ w' = W.drewN k) := hide (fun k => (keptF_any v _).mono (fun _ _ h => ⟨h.1, h.2.symm⟩))
    obtain ⟨c0, c1, c2⟩ := HP.out
    obtain ⟨d0, d1⟩ := HA.out
    go_enter Tryz.func15, Tryz.ntmps15
    go_wp2_with fail
    refine (ref18Attr_any e _ _).mono ?_
    rintro x w1 ⟨rfl, rfl⟩
    rw [HAT.out]
    clear hW
    go_wp2_with fail
    go_quiet ((first
      | (go_at_call 29; exact Calls.quiet_of_same (HCQ.out _))
      | (go_at_call 24; exact Calls.quiet_of_same (HKQ.out _))))
    try go_wp2_with fail
    go_ret2
    exact ⟨by rw [HR.out]; rfl, HB.out.trans ⟨rfl, rfl, rfl, Nat.le_refl _, fun _ _ => rfl⟩⟩
set_option maxHeartbeats 4000000 in
theorem value18_height (r s q : Bool) (A : Option Addr) (F : List FileL) (cap : Nat) (e v : ByteArray) (w : World) (hF : FilesIn w (.slice A F.length cap) F) (hl : F.length ≤ 40) (hzf : ∀ f ∈ F, f.kind.length ≤ 10000) (hs : v.size ≤ 10000) (ha : attrB e.data.toList [104, 101, 105, 103, 104, 116] = true) :
    Calls Tryz.prog 15 #[.agg #[.bool r, .bool s, .bool q], .slice A F.length cap, .string e, .agg #[.string ⟨#[104, 101, 105, 103, 104, 116]⟩, .string v]] w fun x w' => x = .returned (valV (valN r s F [104, 101, 105, 103, 104, 116] v.data.toList)) ∧ Below w.heap.size w w' := by
  have HF := hide hF
  have HL := hide hl
  have HZF := hide hzf
  have HS := hide hs
  have HAT : Hid (attrB e.data.toList (⟨#[104, 101, 105, 103, 104, 116]⟩ : ByteArray).data.toList = true) := hide ha
  clear hF hl hzf hs ha
  obtain ⟨W, hW⟩ : ∃ W, ((w.alloc (.cells #[.bool r, .bool s, .bool q] 26)).alloc (.cells #[.string ⟨#[104, 101, 105, 103, 104, 116]⟩, .string v] 29)) = W := ⟨_, rfl⟩
  have HP : Hid (PBox W w.heap.size r s q) := hide (by rw [← hW]; exact (PBox.new w r s q _).kept (alloc_below _ _))
  have HA : Hid (ABox W (w.heap.size + 1) ⟨#[104, 101, 105, 103, 104, 116]⟩ v) := hide (by
    rw [← hW]
    have := ABox.new (w.alloc (.cells #[.bool r, .bool s, .bool q] 26)) ⟨#[104, 101, 105, 103, 104, 116]⟩ v 29
    rw [World.size_alloc] at this
    exact this)
  have HB : Hid (Below w.heap.size w W) := hide (by
    rw [← hW]
    exact ((Below.refl _ _).alloc (Nat.le_refl _) _).alloc (by rw [World.size_alloc]; exact Nat.le_succ _) _)
  have HCB := hide (fun w2 => digits18_any v w2 (Nat.le_trans HS.out (by decide)))
  cases hb : digsB v.data.toList with
  | true =>
    have HR : Hid (valN r s F [104, 101, 105, 103, 104, 116] v.data.toList = some v.data.toList) := hide (by
      show keepO (digsB v.data.toList) v.data.toList = _
      rw [hb]; rfl)
    rw [hb] at HCB
    clear hb
    have HCQ : Hid (∀ k, Calls Tryz.prog 29 #[.string v] (W.drewN k) fun x w' => x = .returned (.bool true) ∧ w' = W.drewN k) := hide (fun k => (HCB.out _).mono (fun _ _ h => ⟨h.1, h.2.symm⟩))
    have HKQ : Hid (∀ k, Calls Tryz.prog 24 #[.string v, .bool true] (W.drewN k) fun x w' => x = .returned (.tuple #[.string v, .bool true]) ∧ w' = W.drewN k) := hide (fun k => (keptT_any v _).mono (fun _ _ h => ⟨h.1, h.2.symm⟩))
    obtain ⟨c0, c1, c2⟩ := HP.out
    obtain ⟨d0, d1⟩ := HA.out
    go_enter Tryz.func15, Tryz.ntmps15
    go_wp2_with fail
    refine (ref18Attr_any e _ _).mono ?_
    rintro x w1 ⟨rfl, rfl⟩
    rw [HAT.out]
    clear hW
    go_wp2_with fail
    go_quiet ((first
      | (go_at_call 29; exact Calls.quiet_of_same (HCQ.out _))
      | (go_at_call 24; exact Calls.quiet_of_same (HKQ.out _))))
    try go_wp2_with fail
    go_ret2
    exact ⟨by rw [HR.out, valV_some]; rfl, HB.out.trans ⟨rfl, rfl, rfl, Nat.le_refl _, fun _ _ => rfl⟩⟩
  | false =>
    have HR : Hid (valN r s F [104, 101, 105, 103, 104, 116] v.data.toList = none) := hide (by
      show keepO (digsB v.data.toList) v.data.toList = _
      rw [hb]; rfl)
    rw [hb] at HCB
    clear hb
    have HCQ : Hid (∀ k, Calls Tryz.prog 29 #[.string v] (W.drewN k) fun x w' => x = .returned (.bool false) ∧ w' = W.drewN k) := hide (fun k => (HCB.out _).mono (fun _ _ h => ⟨h.1, h.2.symm⟩))
    have HKQ : Hid (∀ k, Calls Tryz.prog 24 #[.string v, .bool false] (W.drewN k) fun x w' => x = .returned (.tuple #[.string ⟨#[]⟩, .bool false]) ∧ w' = W.drewN k) := hide (fun k => (keptF_any v _).mono (fun _ _ h => ⟨h.1, h.2.symm⟩))
    obtain ⟨c0, c1, c2⟩ := HP.out
    obtain ⟨d0, d1⟩ := HA.out
    go_enter Tryz.func15, Tryz.ntmps15
    go_wp2_with fail
    refine (ref18Attr_any e _ _).mono ?_
    rintro x w1 ⟨rfl, rfl⟩
    rw [HAT.out]
    clear hW
    go_wp2_with fail
    go_quiet ((first
      | (go_at_call 29; exact Calls.quiet_of_same (HCQ.out _))
      | (go_at_call 24; exact Calls.quiet_of_same (HKQ.out _))))
    try go_wp2_with fail
    go_ret2
    exact ⟨by rw [HR.out]; rfl, HB.out.trans ⟨rfl, rfl, rfl, Nat.le_refl _, fun _ _ => rfl⟩⟩
set_option maxHeartbeats 4000000 in
theorem value18_start (r s q : Bool) (A : Option Addr) (F : List FileL) (cap : Nat) (e v : ByteArray) (w : World) (hF : FilesIn w (.slice A F.length cap) F) (hl : F.length ≤ 40) (hzf : ∀ f ∈ F, f.kind.length ≤ 10000) (hs : v.size ≤ 10000) (ha : attrB e.data.toList [115, 116, 97, 114, 116] = true) :
    Calls Tryz.prog 15 #[.agg #[.bool r, .bool s, .bool q], .slice A F.length cap, .string e, .agg #[.string ⟨#[115, 116, 97, 114, 116]⟩, .string v]] w fun x w' => x = .returned (valV (valN r s F [115, 116, 97, 114, 116] v.data.toList)) ∧ Below w.heap.size w w' := by
  have HF := hide hF
  have HL := hide hl
  have HZF := hide hzf
  have HS := hide hs
  have HAT : Hid (attrB e.data.toList (⟨#[115, 116, 97, 114, 116]⟩ : ByteArray).data.toList = true) := hide ha
  clear hF hl hzf hs ha
  obtain ⟨W, hW⟩ : ∃ W, ((w.alloc (.cells #[.bool r, .bool s, .bool q] 26)).alloc (.cells #[.string ⟨#[115, 116, 97, 114, 116]⟩, .string v] 29)) = W := ⟨_, rfl⟩
  have HP : Hid (PBox W w.heap.size r s q) := hide (by rw [← hW]; exact (PBox.new w r s q _).kept (alloc_below _ _))
  have HA : Hid (ABox W (w.heap.size + 1) ⟨#[115, 116, 97, 114, 116]⟩ v) := hide (by
    rw [← hW]
    have := ABox.new (w.alloc (.cells #[.bool r, .bool s, .bool q] 26)) ⟨#[115, 116, 97, 114, 116]⟩ v 29
    rw [World.size_alloc] at this
    exact this)
  have HB : Hid (Below w.heap.size w W) := hide (by
    rw [← hW]
    exact ((Below.refl _ _).alloc (Nat.le_refl _) _).alloc (by rw [World.size_alloc]; exact Nat.le_succ _) _)
  have HCB := hide (fun w2 => digits18_any v w2 (Nat.le_trans HS.out (by decide)))
  cases hb : digsB v.data.toList with
  | true =>
    have HR : Hid (valN r s F [115, 116, 97, 114, 116] v.data.toList = some v.data.toList) := hide (by
      show keepO (digsB v.data.toList) v.data.toList = _
      rw [hb]; rfl)
    rw [hb] at HCB
    clear hb
    have HCQ : Hid (∀ k, Calls Tryz.prog 29 #[.string v] (W.drewN k) fun x w' => x = .returned (.bool true) ∧ w' = W.drewN k) := hide (fun k => (HCB.out _).mono (fun _ _ h => ⟨h.1, h.2.symm⟩))
    have HKQ : Hid (∀ k, Calls Tryz.prog 24 #[.string v, .bool true] (W.drewN k) fun x w' => x = .returned (.tuple #[.string v, .bool true]) ∧ w' = W.drewN k) := hide (fun k => (keptT_any v _).mono (fun _ _ h => ⟨h.1, h.2.symm⟩))
    obtain ⟨c0, c1, c2⟩ := HP.out
    obtain ⟨d0, d1⟩ := HA.out
    go_enter Tryz.func15, Tryz.ntmps15
    go_wp2_with fail
    refine (ref18Attr_any e _ _).mono ?_
    rintro x w1 ⟨rfl, rfl⟩
    rw [HAT.out]
    clear hW
    go_wp2_with fail
    go_quiet ((first
      | (go_at_call 29; exact Calls.quiet_of_same (HCQ.out _))
      | (go_at_call 24; exact Calls.quiet_of_same (HKQ.out _))))
    try go_wp2_with fail
    go_ret2
    exact ⟨by rw [HR.out, valV_some]; rfl, HB.out.trans ⟨rfl, rfl, rfl, Nat.le_refl _, fun _ _ => rfl⟩⟩
  | false =>
    have HR : Hid (valN r s F [115, 116, 97, 114, 116] v.data.toList = none) := hide (by
      show keepO (digsB v.data.toList) v.data.toList = _
      rw [hb]; rfl)
    rw [hb] at HCB
    clear hb
    have HCQ : Hid (∀ k, Calls Tryz.prog 29 #[.string v] (W.drewN k) fun x w' => x = .returned (.bool false) ∧ w' = W.drewN k) := hide (fun k => (HCB.out _).mono (fun _ _ h => ⟨h.1, h.2.symm⟩))
    have HKQ : Hid (∀ k, Calls Tryz.prog 24 #[.string v, .bool false] (W.drewN k) fun x w' => x = .returned (.tuple #[.string ⟨#[]⟩, .bool false]) ∧ w' = W.drewN k) := hide (fun k => (keptF_any v _).mono (fun _ _ h => ⟨h.1, h.2.symm⟩))
    obtain ⟨c0, c1, c2⟩ := HP.out
    obtain ⟨d0, d1⟩ := HA.out
    go_enter Tryz.func15, Tryz.ntmps15
    go_wp2_with fail
    refine (ref18Attr_any e _ _).mono ?_
    rintro x w1 ⟨rfl, rfl⟩
    rw [HAT.out]
    clear hW
    go_wp2_with fail
    go_quiet ((first
      | (go_at_call 29; exact Calls.quiet_of_same (HCQ.out _))
      | (go_at_call 24; exact Calls.quiet_of_same (HKQ.out _))))
    try go_wp2_with fail
    go_ret2
    exact ⟨by rw [HR.out]; rfl, HB.out.trans ⟨rfl, rfl, rfl, Nat.le_refl _, fun _ _ => rfl⟩⟩
set_option maxHeartbeats 4000000 in
theorem value18_value (r s q : Bool) (A : Option Addr) (F : List FileL) (cap : Nat) (e v : ByteArray) (w : World) (hF : FilesIn w (.slice A F.length cap) F) (hl : F.length ≤ 40) (hzf : ∀ f ∈ F, f.kind.length ≤ 10000) (hs : v.size ≤ 10000) (ha : attrB e.data.toList [118, 97, 108, 117, 101] = true) :
    Calls Tryz.prog 15 #[.agg #[.bool r, .bool s, .bool q], .slice A F.length cap, .string e, .agg #[.string ⟨#[118, 97, 108, 117, 101]⟩, .string v]] w fun x w' => x = .returned (valV (valN r s F [118, 97, 108, 117, 101] v.data.toList)) ∧ Below w.heap.size w w' := by
  have HF := hide hF
  have HL := hide hl
  have HZF := hide hzf
  have HS := hide hs
  have HAT : Hid (attrB e.data.toList (⟨#[118, 97, 108, 117, 101]⟩ : ByteArray).data.toList = true) := hide ha
  clear hF hl hzf hs ha
  obtain ⟨W, hW⟩ : ∃ W, ((w.alloc (.cells #[.bool r, .bool s, .bool q] 26)).alloc (.cells #[.string ⟨#[118, 97, 108, 117, 101]⟩, .string v] 29)) = W := ⟨_, rfl⟩
  have HP : Hid (PBox W w.heap.size r s q) := hide (by rw [← hW]; exact (PBox.new w r s q _).kept (alloc_below _ _))
  have HA : Hid (ABox W (w.heap.size + 1) ⟨#[118, 97, 108, 117, 101]⟩ v) := hide (by
    rw [← hW]
    have := ABox.new (w.alloc (.cells #[.bool r, .bool s, .bool q] 26)) ⟨#[118, 97, 108, 117, 101]⟩ v 29
    rw [World.size_alloc] at this
    exact this)
  have HB : Hid (Below w.heap.size w W) := hide (by
    rw [← hW]
    exact ((Below.refl _ _).alloc (Nat.le_refl _) _).alloc (by rw [World.size_alloc]; exact Nat.le_succ _) _)
  have HCB := hide (fun w2 => digits18_any v w2 (Nat.le_trans HS.out (by decide)))
  cases hb : digsB v.data.toList with
  | true =>
    have HR : Hid (valN r s F [118, 97, 108, 117, 101] v.data.toList = some v.data.toList) := hide (by
      show keepO (digsB v.data.toList) v.data.toList = _
      rw [hb]; rfl)
    rw [hb] at HCB
    clear hb
    have HCQ : Hid (∀ k, Calls Tryz.prog 29 #[.string v] (W.drewN k) fun x w' => x = .returned (.bool true) ∧ w' = W.drewN k) := hide (fun k => (HCB.out _).mono (fun _ _ h => ⟨h.1, h.2.symm⟩))
    have HKQ : Hid (∀ k, Calls Tryz.prog 24 #[.string v, .bool true] (W.drewN k) fun x w' => x = .returned (.tuple #[.string v, .bool true]) ∧ w' = W.drewN k) := hide (fun k => (keptT_any v _).mono (fun _ _ h => ⟨h.1, h.2.symm⟩))
    obtain ⟨c0, c1, c2⟩ := HP.out
    obtain ⟨d0, d1⟩ := HA.out
    go_enter Tryz.func15, Tryz.ntmps15
    go_wp2_with fail
    refine (ref18Attr_any e _ _).mono ?_
    rintro x w1 ⟨rfl, rfl⟩
    rw [HAT.out]
    clear hW
    go_wp2_with fail
    go_quiet ((first
      | (go_at_call 29; exact Calls.quiet_of_same (HCQ.out _))
      | (go_at_call 24; exact Calls.quiet_of_same (HKQ.out _))))
    try go_wp2_with fail
    go_ret2
    exact ⟨by rw [HR.out, valV_some]; rfl, HB.out.trans ⟨rfl, rfl, rfl, Nat.le_refl _, fun _ _ => rfl⟩⟩
  | false =>
    have HR : Hid (valN r s F [118, 97, 108, 117, 101] v.data.toList = none) := hide (by
      show keepO (digsB v.data.toList) v.data.toList = _
      rw [hb]; rfl)
    rw [hb] at HCB
    clear hb
    have HCQ : Hid (∀ k, Calls Tryz.prog 29 #[.string v] (W.drewN k) fun x w' => x = .returned (.bool false) ∧ w' = W.drewN k) := hide (fun k => (HCB.out _).mono (fun _ _ h => ⟨h.1, h.2.symm⟩))
    have HKQ : Hid (∀ k, Calls Tryz.prog 24 #[.string v, .bool false] (W.drewN k) fun x w' => x = .returned (.tuple #[.string ⟨#[]⟩, .bool false]) ∧ w' = W.drewN k) := hide (fun k => (keptF_any v _).mono (fun _ _ h => ⟨h.1, h.2.symm⟩))
    obtain ⟨c0, c1, c2⟩ := HP.out
    obtain ⟨d0, d1⟩ := HA.out
    go_enter Tryz.func15, Tryz.ntmps15
    go_wp2_with fail
    refine (ref18Attr_any e _ _).mono ?_
    rintro x w1 ⟨rfl, rfl⟩
    rw [HAT.out]
    clear hW
    go_wp2_with fail
    go_quiet ((first
      | (go_at_call 29; exact Calls.quiet_of_same (HCQ.out _))
      | (go_at_call 24; exact Calls.quiet_of_same (HKQ.out _))))
    try go_wp2_with fail
    go_ret2
    exact ⟨by rw [HR.out]; rfl, HB.out.trans ⟨rfl, rfl, rfl, Nat.le_refl _, fun _ _ => rfl⟩⟩
set_option maxHeartbeats 4000000 in
theorem value18_off (r s q : Bool) (A : Option Addr) (F : List FileL) (cap : Nat) (e n v : ByteArray) (w : World) (ha : attrB e.data.toList n.data.toList = false) :
    Calls Tryz.prog 15 #[.agg #[.bool r, .bool s, .bool q], .slice A F.length cap, .string e, .agg #[.string n, .string v]] w fun x w' => x = .returned (valV none) ∧ Below w.heap.size w w' := by
  have HA := hide ha
  clear ha
  go_enter Tryz.func15, Tryz.ntmps15
  go_wp2_with fail
  refine (ref18Attr_any e n _).mono ?_
  rintro x w1 ⟨rfl, rfl⟩
  rw [HA.out]
  go_wp2_with fail
  go_ret2
  exact ⟨rfl, ((Below.refl _ _).alloc (Nat.le_refl _) _).alloc (by simp) _⟩
/-- the reference's Value, whatever the attribute is -/
theorem value18_any (r s q : Bool) (A : Option Addr) (F : List FileL) (cap : Nat) (e n v : ByteArray) (w : World) (hF : FilesIn w (.slice A F.length cap) F) (hl : F.length ≤ 40) (hzf : ∀ f ∈ F, f.kind.length ≤ 10000) (hs : v.size ≤ 10000) :
    Calls Tryz.prog 15 #[.agg #[.bool r, .bool s, .bool q], .slice A F.length cap, .string e, .agg #[.string n, .string v]] w fun x w' => x = .returned (valV (valL r s F e.data.toList n.data.toList v.data.toList)) ∧ Below w.heap.size w w' := by
  unfold valL
  cases ha : attrB e.data.toList n.data.toList with
  | false =>
    rw [if_neg (by decide)]
    exact value18_off r s q A F cap e n v w ha
  | true =>
    rw [if_pos rfl]
    cases hk : attrsL.contains n.data.toList with
    | false => rw [attrB_none _ _ hk] at ha; cases ha
    | true =>
      rcases attrsL_cases _ hk with h | h | h | h | h | h | h | h | h | h | h
      · obtain rfl : n = ⟨#[116, 105, 116, 108, 101]⟩ := ext_list h
        exact value18_title r s q A F cap e v w hF hl hzf hs ha
      · obtain rfl : n = ⟨#[100, 105, 114]⟩ := ext_list h
        exact value18_dir r s q A F cap e v w hF hl hzf hs ha
      · obtain rfl : n = ⟨#[108, 97, 110, 103]⟩ := ext_list h
        exact value18_lang r s q A F cap e v w hF hl hzf hs ha
      · obtain rfl : n = ⟨#[115, 116, 121, 108, 101]⟩ := ext_list h
        exact value18_style r s q A F cap e v w hF hl hzf hs ha
      · obtain rfl : n = ⟨#[104, 114, 101, 102]⟩ := ext_list h
        exact value18_href r s q A F cap e v w hF hl hzf hs ha
      · obtain rfl : n = ⟨#[115, 114, 99]⟩ := ext_list h
        exact value18_src r s q A F cap e v w hF hl hzf hs ha
      · obtain rfl : n = ⟨#[97, 108, 116]⟩ := ext_list h
        exact value18_alt r s q A F cap e v w hF hl hzf hs ha
      · obtain rfl : n = ⟨#[119, 105, 100, 116, 104]⟩ := ext_list h
        exact value18_width r s q A F cap e v w hF hl hzf hs ha
      · obtain rfl : n = ⟨#[104, 101, 105, 103, 104, 116]⟩ := ext_list h
        exact value18_height r s q A F cap e v w hF hl hzf hs ha
      · obtain rfl : n = ⟨#[115, 116, 97, 114, 116]⟩ := ext_list h
        exact value18_start r s q A F cap e v w hF hl hzf hs ha
      · obtain rfl : n = ⟨#[118, 97, 108, 117, 101]⟩ := ext_list h
        exact value18_value r s q A F cap e v w hF hl hzf hs ha
end Go.Proofs.YtklbdobofclofaaGreatDoor
