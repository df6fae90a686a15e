/- WALKS of strings.Replacer at ent.Text's eight texts: build, buildOnce, Do, Replace, NewReplacer; ent.Text, ent.Value. No statement is proved here. -/
import Derived.Test.YtgokefodmjhhiaaGreatDoorEntV
import Derived.Test.YtgokefodmjhhiaaGreatDoorEntK
import Derived.Test.YtgokefodmjhhiaaGreatDoorBaseP
import Derived.Test.YtgokefodmjhhiaaGreatDoorOnceB
namespace Go.Proofs.YtgokefodmjhhiaaGreatDoor
open Go.RowKit
set_option linter.unusedVariables false
set_option linter.unusedSimpArgs false
set_option maxRecDepth 100000
set_option maxHeartbeats 2000000 in
theorem buildE_any (b g c : Nat) (w : World) (ho : w.cell? ⟨b, 4, none⟩ = some (.slice (some ⟨g, 0, none⟩) 8 c)) (hg : OldNewE g w) :
    Calls Tryz.prog 164 #[.pointer (some ⟨b, 0, none⟩)] w fun e w' => e = .returned (.iface 194 (.pointer (some ⟨w.heap.size, 0, none⟩))) ∧ TrieX w.heap.size w.heap.size w' ∧ Below w.heap.size w w' := by
  have g0 := (hg 0 (by omega)).1
  have g1 := (hg 0 (by omega)).2
  have g2 := (hg 1 (by omega)).1
  have g3 := (hg 1 (by omega)).2
  have g4 := (hg 2 (by omega)).1
  have g5 := (hg 2 (by omega)).2
  have g6 := (hg 3 (by omega)).1
  have e0 : w.cell? ⟨g, 0, none⟩ = some (.string ⟨#[38]⟩) := g0
  have e1 : w.cell? ⟨g, 1, none⟩ = some (.string ⟨#[38, 97, 109, 112, 59]⟩) := g1
  have e2 : w.cell? ⟨g, 2, none⟩ = some (.string ⟨#[60]⟩) := g2
  have e3 : w.cell? ⟨g, 3, none⟩ = some (.string ⟨#[38, 108, 116, 59]⟩) := g3
  have e4 : w.cell? ⟨g, 4, none⟩ = some (.string ⟨#[62]⟩) := g4
  have e5 : w.cell? ⟨g, 5, none⟩ = some (.string ⟨#[38, 103, 116, 59]⟩) := g5
  have e6 : w.cell? ⟨g, 6, none⟩ = some (.string ⟨#[194, 160]⟩) := g6
  have HG := hide hg
  clear g0 g1 g2 g3 g4 g5 g6 hg
  go_enter Tryz.func164, Tryz.ntmps164
  go_wp2_with fail
  go_loop [4, 5] (fun a i => (i = .int .i64 0 ∧ a = .bool true) ∨ (i = .int .i64 2 ∧ a = .bool false) ∨ (i = .int .i64 4 ∧ a = .bool false) ∨ (i = .int .i64 6 ∧ a = .bool false)) (fun _ i => 8 - (intOf i).toNat)
  case atStart => exact .inl ⟨rfl, rfl⟩
  case round =>
    rcases hrel with ⟨rfl, rfl⟩ | ⟨rfl, rfl⟩ | ⟨rfl, rfl⟩ | ⟨rfl, rfl⟩
    · go_wp2_with fail
      exact ⟨.inr (.inl ⟨rfl, rfl⟩), by decide⟩
    · go_wp2_with fail
      exact ⟨.inr (.inr (.inl ⟨rfl, rfl⟩)), by decide⟩
    · go_wp2_with fail
      exact ⟨.inr (.inr (.inr ⟨rfl, rfl⟩)), by decide⟩
    · go_wp2_with (go_at_call 190; refine (makeGen_any g c _ HG.out).mono ?_; rintro e w1 ⟨rfl, ht, hb⟩; have HT := hide ht; have HB := hide hb; clear ht hb)
      go_ret
      exact ⟨rfl, HT.out, HB.out⟩
/-- behind buildOnce -/
def BuiltE (W : World) (b : Nat) (w w' : World) : Prop :=
  TrieX w.heap.size w.heap.size w' ∧ Below W.heap.size W w' ∧ w.heap.size ≤ w'.heap.size ∧ w'.cell? ⟨b, 3, none⟩ = some (.iface 194 (.pointer (some ⟨w.heap.size, 0, none⟩))) ∧
  w'.cell? ⟨b, 0, none⟩ = some (.int .u32 0) ∧ w'.cell? ⟨b, 1, none⟩ = some (.int .i32 1) ∧ w'.frozen? ⟨b, 0, none⟩ = false ∧ w'.frozen? ⟨b, 1, none⟩ = false
set_option maxHeartbeats 2000000 in
theorem buildOnceE_any (b g c : Nat) (W w : World) (hW : Below W.heap.size W w) (hWb : W.heap.size ≤ b) (h0 : w.cell? ⟨b, 0, none⟩ = some (.int .u32 0)) (h1 : w.cell? ⟨b, 1, none⟩ = some (.int .i32 1)) (h3 : w.cell? ⟨b, 3, none⟩ = some .nilIface)
    (hf : ∀ i : Nat, w.frozen? ⟨b, i, none⟩ = false) (h4 : w.cell? ⟨b, 4, none⟩ = some (.slice (some ⟨g, 0, none⟩) 8 c)) (hg : OldNewE g w) :
    Calls Tryz.prog 145 #[.pointer (some ⟨b, 0, none⟩)] w fun e w' => e = .returned (.tuple #[]) ∧ BuiltE W b w w' := by
  have hbl : b < w.heap.size := World.block_lt_of_cell? w _ h0
  have HF := hide hf
  have HG := hide hg
  clear hf hg
  go_enter Tryz.func145, Tryz.ntmps145
  go_wp2_with (go_at_call 164; refine (buildE_any b g c _ h4 HG.out).mono ?_; rintro e w2 ⟨rfl, ht, hb2⟩; have HT := hide ht; have k3 := (hb2.cell (p := ⟨b, 3, none⟩) hbl).trans h3; have k4 := (hb2.cell (p := ⟨b, 4, none⟩) hbl).trans h4; have z3 := (hb2.frozen (p := ⟨b, 3, none⟩) hbl).trans (HF.out 3); have z4 := (hb2.frozen (p := ⟨b, 4, none⟩) hbl).trans (HF.out 4); have HB2 := hide hb2; clear ht hb2)
  go_end0
  have k0 := (HB2.out.cell (p := ⟨b, 0, none⟩) hbl).trans h0
  have k1 := (HB2.out.cell (p := ⟨b, 1, none⟩) hbl).trans h1
  have z0 := (HB2.out.frozen (p := ⟨b, 0, none⟩) hbl).trans (HF.out 0)
  have z1 := (HB2.out.frozen (p := ⟨b, 1, none⟩) hbl).trans (HF.out 1)
  have hWw : W.heap.size ≤ w.heap.size := hW.size
  refine ⟨rfl, (HT.out.set hbl _).set hbl _, ((hW.trans (HB2.out.mono hWw)).setCell hWb _).setCell hWb _, ?_, ?_, ?_, ?_, ?_, ?_⟩
  · rw [z_set, z_set]; exact HB2.out.size
  · exact (World.cell?_setCell_other _ _ _ _ (ne_off (by decide))).trans (World.cell?_setCell_same _ _ _ k3)
  · exact ((World.cell?_setCell_other _ _ _ _ (ne_off (by decide))).trans (World.cell?_setCell_other _ _ _ _ (ne_off (by decide)))).trans k0
  · exact ((World.cell?_setCell_other _ _ _ _ (ne_off (by decide))).trans (World.cell?_setCell_other _ _ _ _ (ne_off (by decide)))).trans k1
  · rw [World.frozen?_setCell, World.frozen?_setCell]; exact z0
  · rw [World.frozen?_setCell, World.frozen?_setCell]; exact z1
/-- a replacer of the eight texts, not yet built -/
def NewE (b : Nat) (w : World) : Prop :=
  w.cell? ⟨b, 0, none⟩ = some (.int .u32 0) ∧ w.cell? ⟨b, 1, none⟩ = some (.int .i32 0) ∧ w.cell? ⟨b, 3, none⟩ = some .nilIface ∧ (∀ i : Nat, w.frozen? ⟨b, i, none⟩ = false) ∧ ∃ g c : Nat, w.cell? ⟨b, 4, none⟩ = some (.slice (some ⟨g, 0, none⟩) 8 c) ∧ OldNewE g w ∧ b ≠ g
theorem doE_build (b : Nat) (W w : World) (hW : Below W.heap.size W w) (hWb : W.heap.size ≤ b) (hn : NewE b w) :
    Calls Tryz.prog 144 #[.pointer (some ⟨b, 0, none⟩), .func (.func 145) #[.pointer (some ⟨b, 0, none⟩)] #[]] w fun e w' => e = .returned (.tuple #[]) ∧
      TrieX w.heap.size w.heap.size w' ∧ Below W.heap.size W w' ∧ w.heap.size ≤ w'.heap.size ∧ w'.cell? ⟨b, 3, none⟩ = some (.iface 194 (.pointer (some ⟨w.heap.size, 0, none⟩))) := by
  obtain ⟨h0, h1, h3, hf, g, c, h4, ho, hbg⟩ := hn
  have hbl : b < w.heap.size := World.block_lt_of_cell? w _ h0
  have es : (w.setCell ⟨b, 1, none⟩ (.int .i32 1)).heap.size = w.heap.size := World.size_setCell ..
  have hb := buildOnceE_any b g c W (w.setCell ⟨b, 1, none⟩ (.int .i32 1)) (hW.setCell hWb _) hWb
    ((World.cell?_setCell_other _ _ _ _ (ne_off (by decide))).trans h0) (World.cell?_setCell_same _ _ _ h1) ((World.cell?_setCell_other _ _ _ _ (ne_off (by decide))).trans h3)
    (fun i => by rw [World.frozen?_setCell]; exact hf i) ((World.cell?_setCell_other _ _ _ _ (ne_off (by decide))).trans h4)
    (fun k hk => ⟨(World.cell?_setCell_other _ _ _ _ (ne_blk hbg)).trans (ho k hk).1, (World.cell?_setCell_other _ _ _ _ (ne_blk hbg)).trans (ho k hk).2⟩)
  refine (once_build b w _ h0 h1 (hf 0) (hf 1) hb (fun w' hq => ⟨hq.2.2.2.2.1, hq.2.2.2.2.2.1, hq.2.2.2.2.2.2.1, hq.2.2.2.2.2.2.2⟩)).mono ?_
  rintro e w' ⟨rfl, w1, hq, rfl⟩
  obtain ⟨q1, q2, q3, q4, _⟩ := hq
  rw [es] at q1 q3 q4
  refine ⟨rfl, ((q1.drew).set hbl _).set hbl _, ((q2.drew).setCell hWb _).setCell hWb _, ?_, ?_⟩
  · rw [z_set, z_set]; exact q3
  · refine ((World.cell?_setCell_other _ _ _ _ (ne_off (by decide))).trans (World.cell?_setCell_other _ _ _ _ (ne_off (by decide)))).trans ?_
    rw [World.cell?_drew]; exact q4
theorem meth_generic (a : Addr) (w : World) : (method 392 194 (.pointer (some a)) "Replace").run Tryz.prog w = .ok (280, .pointer (some a)) w := by kernel_rfl
set_option maxHeartbeats 2000000 in
theorem replacerE_any (s : ByteArray) (b : Nat) (W w : World) (hW : Below W.heap.size W w) (hWb : W.heap.size ≤ b) (hn : NewE b w) (hs : s.size ≤ 17592186044416) :
    Calls Tryz.prog 125 #[.pointer (some ⟨b, 0, none⟩), .string s] w fun e w' => e = .returned (.string (str (escQ false s.data.toList))) ∧ Below W.heap.size W w' := by
  rw [← escG_Q]
  have hmt := meth_generic
  have HD := hide (doE_build b W w hW hWb hn)
  have HS := hide hs
  have HW := hide hW.size
  clear hW hs hn
  go_enter Tryz.func125, Tryz.ntmps125
  go_wp2_with (first
    | (go_at_call 144; refine HD.out.mono ?_; rintro e w1 ⟨rfl, hr1, hb1, hz1, hc1⟩; have HR1 := hide hr1; have HB1 := hide hb1; have HZ1 := hide hz1; clear hr1 hb1 hz1)
    | (go_at_call 280; obtain ⟨T, n0, n1, n2, n4, n5, ht, _, hi⟩ := HR1.out; refine (greplace_any s _ T n0 n1 n2 n4 n5 _ ht hi HS.out).mono ?_; rintro e w2 ⟨rfl, hb2⟩; have HB2 := hide hb2; clear hb2 ht hi))
  go_ret
  exact ⟨rfl, HB1.out.trans (HB2.out.mono HB1.out.size)⟩
theorem newReplacerE_any (g : Nat) (w : World) (hg : OldNewE g w) :
    Calls Tryz.prog 124 #[.slice (some ⟨g, 0, none⟩) 8 8] w fun e w' => ∃ b : Nat, e = .returned (.pointer (some ⟨b, 0, none⟩)) ∧ w.heap.size ≤ b ∧ Below w.heap.size w w' ∧ NewE b w' := by
  have g0 := (hg 0 (by omega)).1
  have g1 := (hg 0 (by omega)).2
  have g2 := (hg 1 (by omega)).1
  have g3 := (hg 1 (by omega)).2
  have g4 := (hg 2 (by omega)).1
  have g5 := (hg 2 (by omega)).2
  have g6 := (hg 3 (by omega)).1
  have g7 := (hg 3 (by omega)).2
  have e0 : w.cell? ⟨g, 0, none⟩ = some (.string ⟨#[38]⟩) := g0
  have e1 : w.cell? ⟨g, 1, none⟩ = some (.string ⟨#[38, 97, 109, 112, 59]⟩) := g1
  have e2 : w.cell? ⟨g, 2, none⟩ = some (.string ⟨#[60]⟩) := g2
  have e3 : w.cell? ⟨g, 3, none⟩ = some (.string ⟨#[38, 108, 116, 59]⟩) := g3
  have e4 : w.cell? ⟨g, 4, none⟩ = some (.string ⟨#[62]⟩) := g4
  have e5 : w.cell? ⟨g, 5, none⟩ = some (.string ⟨#[38, 103, 116, 59]⟩) := g5
  have e6 : w.cell? ⟨g, 6, none⟩ = some (.string ⟨#[194, 160]⟩) := g6
  have e7 : w.cell? ⟨g, 7, none⟩ = some (.string ⟨#[38, 110, 98, 115, 112, 59]⟩) := g7
  clear g0 g1 g2 g3 g4 g5 g6 g7 hg
  go_enter Tryz.func124, Tryz.ntmps124
  go_wp2_with fail
  go_ret
  generalize (Question.appendCap 8 0 9).cut _ = cp
  have es : ∀ C T, (w.alloc (.cells C T)).heap.size = w.heap.size + 1 := fun C T => World.size_alloc ..
  refine ⟨w.heap.size + 1, rfl, Nat.le_succ _, (((Below.refl _ w).alloc (Nat.le_refl _) _).alloc (by rw [es]; exact Nat.le_succ _) _).drew, ?_, ?_, ?_, fun i => ?_, w.heap.size, cp, ?_, fun k hk => ?_, by omega⟩
  · rw [World.cell?_drew, World.cell?_alloc_at _ _ _ _ (es _ _).symm]; rfl
  · rw [World.cell?_drew, World.cell?_alloc_at _ _ _ _ (es _ _).symm]; rfl
  · rw [World.cell?_drew, World.cell?_alloc_at _ _ _ _ (es _ _).symm]; rfl
  · rw [World.frozen?_drew]; exact World.frozen?_alloc_at _ _ _ _ (es _ _).symm
  · rw [World.cell?_drew, World.cell?_alloc_at _ _ _ _ (es _ _).symm]; rfl
  · match k, hk with
    | 0, _ => exact ⟨by rw [World.cell?_drew, World.cell?_alloc_past _ _ _ (by rw [es]; exact Nat.lt_succ_self _), World.cell?_alloc_at _ _ _ _ rfl, Array.getElem?_append_left (by decide)]; rfl, by rw [World.cell?_drew, World.cell?_alloc_past _ _ _ (by rw [es]; exact Nat.lt_succ_self _), World.cell?_alloc_at _ _ _ _ rfl, Array.getElem?_append_left (by decide)]; rfl⟩
    | 1, _ => exact ⟨by rw [World.cell?_drew, World.cell?_alloc_past _ _ _ (by rw [es]; exact Nat.lt_succ_self _), World.cell?_alloc_at _ _ _ _ rfl, Array.getElem?_append_left (by decide)]; rfl, by rw [World.cell?_drew, World.cell?_alloc_past _ _ _ (by rw [es]; exact Nat.lt_succ_self _), World.cell?_alloc_at _ _ _ _ rfl, Array.getElem?_append_left (by decide)]; rfl⟩
    | 2, _ => exact ⟨by rw [World.cell?_drew, World.cell?_alloc_past _ _ _ (by rw [es]; exact Nat.lt_succ_self _), World.cell?_alloc_at _ _ _ _ rfl, Array.getElem?_append_left (by decide)]; rfl, by rw [World.cell?_drew, World.cell?_alloc_past _ _ _ (by rw [es]; exact Nat.lt_succ_self _), World.cell?_alloc_at _ _ _ _ rfl, Array.getElem?_append_left (by decide)]; rfl⟩
    | 3, _ => exact ⟨by rw [World.cell?_drew, World.cell?_alloc_past _ _ _ (by rw [es]; exact Nat.lt_succ_self _), World.cell?_alloc_at _ _ _ _ rfl, Array.getElem?_append_left (by decide)]; rfl, by rw [World.cell?_drew, World.cell?_alloc_past _ _ _ (by rw [es]; exact Nat.lt_succ_self _), World.cell?_alloc_at _ _ _ _ rfl, Array.getElem?_append_left (by decide)]; rfl⟩
theorem old_newE (w : World) (t : TypeId) : OldNewE w.heap.size (w.alloc (.cells #[.string ⟨#[38]⟩, .string ⟨#[38, 97, 109, 112, 59]⟩, .string ⟨#[60]⟩, .string ⟨#[38, 108, 116, 59]⟩, .string ⟨#[62]⟩, .string ⟨#[38, 103, 116, 59]⟩, .string ⟨#[194, 160]⟩, .string ⟨#[38, 110, 98, 115, 112, 59]⟩] t)) := by
  intro k hk
  match k, hk with
  | 0, _ => exact ⟨by rw [World.cell?_alloc_at _ _ _ _ rfl]; rfl, by rw [World.cell?_alloc_at _ _ _ _ rfl]; rfl⟩
  | 1, _ => exact ⟨by rw [World.cell?_alloc_at _ _ _ _ rfl]; rfl, by rw [World.cell?_alloc_at _ _ _ _ rfl]; rfl⟩
  | 2, _ => exact ⟨by rw [World.cell?_alloc_at _ _ _ _ rfl]; rfl, by rw [World.cell?_alloc_at _ _ _ _ rfl]; rfl⟩
  | 3, _ => exact ⟨by rw [World.cell?_alloc_at _ _ _ _ rfl]; rfl, by rw [World.cell?_alloc_at _ _ _ _ rfl]; rfl⟩
set_option maxHeartbeats 2000000 in
/-- ent.Text -/
theorem entText_any (s : ByteArray) (w : World) (hs : s.size ≤ 17592186044416) :
    Calls Tryz.prog 84 #[.string s] w fun e w' => e = .returned (.string (str (escQ false s.data.toList))) ∧ Below w.heap.size w w' := by
  obtain ⟨X, hX⟩ : ∃ X, X = str (escQ false s.data.toList) := ⟨_, rfl⟩
  have HX := hide hX
  have HON := hide (old_newE w 9)
  have HB0 : Hid (Below w.heap.size w (w.alloc (.cells #[.string ⟨#[38]⟩, .string ⟨#[38, 97, 109, 112, 59]⟩, .string ⟨#[60]⟩, .string ⟨#[38, 108, 116, 59]⟩, .string ⟨#[62]⟩, .string ⟨#[38, 103, 116, 59]⟩, .string ⟨#[194, 160]⟩, .string ⟨#[38, 110, 98, 115, 112, 59]⟩] 9))) := hide ((Below.refl _ w).alloc (Nat.le_refl _) _)
  rw [← hX]
  clear hX
  go_enter Tryz.func84, Tryz.ntmps84
  go_wp2_with (first
    | (go_at_call 124; refine (newReplacerE_any _ _ HON.out).mono ?_; rintro e w1 ⟨b, rfl, hbb, hb1, hn1⟩; have HN1 := hide hn1; have HB1 := hide (HB0.out.trans (hb1.mono HB0.out.size)); have HBB := hide (Nat.le_trans HB0.out.size hbb); clear hbb hb1 hn1)
    | (go_at_call 125; refine (replacerE_any s b w _ HB1.out HBB.out HN1.out hs).mono ?_; rw [← HX.out]; rintro e w2 ⟨rfl, hb2⟩; have HB2 := hide hb2; clear hb2))
  go_ret
  exact ⟨rfl, HB2.out⟩
end Go.Proofs.YtgokefodmjhhiaaGreatDoor
