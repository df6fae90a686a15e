/- More of the first texts of this claim in one: each with its own head. No statement is proved here. -/
import Derived.Test.YtiejmkjpgjbodaaGreatDoorBaseM
import Derived.Defers
import Derived.Laws.Pointers
import Derived.Laws.LoneSync
import Derived.RegionTactic
import Derived.RegionCalls
import Derived.ChangeAlike
import Derived.Laws.NewBlocks
import Derived.Test.YtiejmkjpgjbodaaGreatDoorBaseR
import Derived.Test.YtiejmkjpgjbodaaGreatDoorBaseP
namespace Go.Proofs.YtiejmkjpgjbodaaGreatDoor
open Go.RowKit
set_option linter.unusedVariables false
set_option linter.unusedSimpArgs false
set_option maxRecDepth 100000
theorem race_off (w : World) : (callFunc 251 #[]).run Tryz.prog w = .ok (.value (.tuple #[])) w := run_call_mark0 Tryz.func251 (by kernel_rfl) (by kernel_rfl) (by kernel_rfl) .disable (by kernel_rfl) w
theorem race_on (w : World) : (callFunc 253 #[]).run Tryz.prog w = .ok (.value (.tuple #[])) w := run_call_mark0 Tryz.func253 (by kernel_rfl) (by kernel_rfl) (by kernel_rfl) .enable (by kernel_rfl) w
theorem race_got (a : Addr) (w : World) : (callFunc 254 #[.pointer (some a)]).run Tryz.prog w = .ok (.value (.tuple #[])) w := run_call_marked Tryz.func254 (by kernel_rfl) (by kernel_rfl) (by kernel_rfl) .acquire (by kernel_rfl) a w
theorem race_let (a : Addr) (w : World) : (callFunc 256 #[.pointer (some a)]).run Tryz.prog w = .ok (.value (.tuple #[])) w := run_call_marked Tryz.func256 (by kernel_rfl) (by kernel_rfl) (by kernel_rfl) .releaseMerge (by kernel_rfl) a w
theorem done_set (a : Addr) (x : Value) (u : FrameMode) (w : World) (hc : w.cell? a = some x) (hz : w.frozen? a = false) :
    CallsD Tryz.prog 213 #[.pointer (some a), .bool true] u w fun e u' w' => u' = u ∧ (e = .returned (.tuple #[]) ∧ w' = w.drew.setCell a (.int .u32 1)) := by
  have hc' : w.drew.cell? a = some x := by go_simp
  have hz' : w.drew.frozen? a = false := by go_simp
  have hst := run_call_store (P := Tryz.prog) Tryz.func240 (by kernel_rfl) (by kernel_rfl) (by kernel_rfl) (by kernel_rfl) (k := .u32) (y := 1) hc' hz'
  go_enter_d Tryz.func213, Tryz.ntmps213
  go_wp2
  go_region_calls
  all_goals (go_end0; exact ⟨rfl, rfl⟩)
theorem lock_let (a : Addr) (u : FrameMode) (w : World) (hc : w.cell? a = some (.int .i32 1)) (hz : w.frozen? a = false) :
    CallsD Tryz.prog 212 #[.pointer (some a)] u w fun e u' w' => u' = u ∧ (e = .returned (.tuple #[]) ∧ w' = w.setCell a (.int .i32 0)) := by
  have hd := race_off
  have he := race_on
  have hr := race_let
  have hadd := run_call_add (P := Tryz.prog) Tryz.func257 (by kernel_rfl) (by kernel_rfl) (by kernel_rfl) .i32 (by kernel_rfl) (y := -1) (s := 0) hc hz (by simp [go_sem]; rfl)
  have hcv := run_convert_to_unsafe (P := Tryz.prog) (src := 270) (dst := 153) Tryz.underlying270 Tryz.underlying153 (by kernel_rfl) hc
  go_enter_d Tryz.func212, Tryz.ntmps212
  go_wp2
  go_end0
  go_wp2
  go_end0
  exact ⟨rfl, rfl⟩
theorem lock_got (a : Addr) (w : World) (hc : w.cell? a = some (.int .i32 0)) (hz : w.frozen? a = false) :
    Calls Tryz.prog 211 #[.pointer (some a)] w fun e w' => e = .returned (.tuple #[]) ∧ w' = w.setCell a (.int .i32 1) := by
  have hd := race_off
  have he := race_on
  have ha := race_got
  have hcas := run_call_cas_hit (P := Tryz.prog) Tryz.func252 (by kernel_rfl) (by kernel_rfl) (by kernel_rfl) .i32 (by kernel_rfl) (y := 1) hc hz
  have hc' : (w.setCell a (.int .i32 1)).cell? a = some (.int .i32 1) := World.cell?_setCell_same w a _ hc
  have hcv := run_convert_to_unsafe (P := Tryz.prog) (src := 270) (dst := 153) Tryz.underlying270 Tryz.underlying153 (by kernel_rfl) hc'
  go_enter Tryz.func211, Tryz.ntmps211
  go_wp2
  first | go_end0 | (simp only [Exit.inBlock, Exit.then]; refine bodyPost_ret (results_none rfl _ _ _) rfl ?_) | refine bodyPost_ret (results_none rfl _ _ _) rfl ?_
  go_wp2
  go_end0
  exact ⟨rfl, rfl⟩
end Go.Proofs.YtiejmkjpgjbodaaGreatDoor

namespace Go.Proofs.YtiejmkjpgjbodaaGreatDoor
open Go.RowKit
set_option linter.unusedVariables false
set_option linter.unusedSimpArgs false
set_option maxRecDepth 100000
theorem done_get (a : Addr) (w : World) (h0 : w.cell? a = some (.int .u32 0)) :
    Calls Tryz.prog 182 #[.pointer (some a)] w fun e w' => e = .returned (.bool false) ∧ w = w' := by
  have hl := run_call_load (P := Tryz.prog) Tryz.func210 (by kernel_rfl) (by kernel_rfl) (by kernel_rfl) .u32 (by kernel_rfl) h0
  go_enter Tryz.func182, Tryz.ntmps182
  go_wp2
  go_ret
  exact ⟨rfl, rfl⟩
set_option maxHeartbeats 1600000 in
theorem slow_build (b : Nat) (w : World) (Q : World → Prop)
    (h0 : w.cell? ⟨b, 0, none⟩ = some (.int .u32 0)) (h1 : w.cell? ⟨b, 1, none⟩ = some (.int .i32 0)) (f0 : w.frozen? ⟨b, 0, none⟩ = false) (f1 : w.frozen? ⟨b, 1, none⟩ = false)
    (hC : Calls Tryz.prog 164 #[.pointer (some ⟨b, 0, none⟩)] (w.setCell ⟨b, 1, none⟩ (.int .i32 1)) fun e w' => e = .returned (.tuple #[]) ∧ Q w')
    (hQ : ∀ w', Q w' → w'.cell? ⟨b, 0, none⟩ = some (.int .u32 0) ∧ w'.cell? ⟨b, 1, none⟩ = some (.int .i32 1) ∧ w'.frozen? ⟨b, 0, none⟩ = false ∧ w'.frozen? ⟨b, 1, none⟩ = false) :
    Calls Tryz.prog 183 #[.pointer (some ⟨b, 0, none⟩), .func (.func 164) #[.pointer (some ⟨b, 0, none⟩)] #[]] w fun e w' => e = .returned (.tuple #[]) ∧
      ∃ w1, Q w1 ∧ w' = (w1.drew.setCell ⟨b, 0, none⟩ (.int .u32 1)).setCell ⟨b, 1, none⟩ (.int .i32 0) := by
  have hd1 : (w.setCell ⟨b, 1, none⟩ (.int .i32 1)).cell? ⟨b, 0, none⟩ = some (.int .u32 0) := (World.cell?_setCell_other _ ⟨b, 1, none⟩ ⟨b, 0, none⟩ _ (by simp)).trans h0
  have hnot : ∀ (x : Bool) (w : World), (Op.unary .not (.bool x)).run Tryz.prog w = .ok (.bool (!x)) w := fun _ _ => rfl
  go_enter_defers Tryz.func183, Tryz.ntmps183
  go_wp2_with (go_at_call 211; refine (lock_got ⟨b, 1, none⟩ _ (by go_simp) (by go_simp)).mono ?_; rintro e w' ⟨rfl, rfl⟩)
  go_wp2_with (first
    | (go_at_call 182; refine (done_get ⟨b, 0, none⟩ _ hd1).mono ?_; rintro e w' ⟨rfl, rfl⟩)
    | (go_at_call 164; refine hC.mono ?_; rintro e w2 ⟨rfl, hq⟩))
  refine leaves_cons (f := 213) (args := #[.pointer (some ⟨b, 0, none⟩), .bool true]) (by simp) (by simp [go_sem]) ?_
  refine (done_set ⟨b, 0, none⟩ (.int .u32 0) .returning _ (hQ _ hq).1 (hQ _ hq).2.2.1).mono ?_
  rintro e u' w'' ⟨rfl, rfl, rfl⟩
  refine leaves_cons (f := 212) (args := #[.pointer (some ⟨b, 1, none⟩)]) (by simp [settle]) (by simp [go_sem]) ?_
  refine (lock_let ⟨b, 1, none⟩ _ _ ?_ ?_).mono ?_
  · refine (World.cell?_setCell_other _ ⟨b, 0, none⟩ ⟨b, 1, none⟩ _ (by simp)).trans ?_
    rw [World.cell?_drew]
    exact (hQ _ hq).2.1
  · simp [(hQ _ hq).2.2.2]
  rintro e u' w'' ⟨rfl, rfl, rfl⟩
  simp [Leaves, settle, results, Tryz.results183]
  exact ⟨w2, hq, rfl⟩
set_option maxHeartbeats 1600000 in
theorem once_build (b : Nat) (w : World) (Q : World → Prop)
    (h0 : w.cell? ⟨b, 0, none⟩ = some (.int .u32 0)) (h1 : w.cell? ⟨b, 1, none⟩ = some (.int .i32 0)) (f0 : w.frozen? ⟨b, 0, none⟩ = false) (f1 : w.frozen? ⟨b, 1, none⟩ = false)
    (hC : Calls Tryz.prog 164 #[.pointer (some ⟨b, 0, none⟩)] (w.setCell ⟨b, 1, none⟩ (.int .i32 1)) fun e w' => e = .returned (.tuple #[]) ∧ Q w')
    (hQ : ∀ w', Q w' → w'.cell? ⟨b, 0, none⟩ = some (.int .u32 0) ∧ w'.cell? ⟨b, 1, none⟩ = some (.int .i32 1) ∧ w'.frozen? ⟨b, 0, none⟩ = false ∧ w'.frozen? ⟨b, 1, none⟩ = false) :
    Calls Tryz.prog 163 #[.pointer (some ⟨b, 0, none⟩), .func (.func 164) #[.pointer (some ⟨b, 0, none⟩)] #[]] w fun e w' => e = .returned (.tuple #[]) ∧
      ∃ w1, Q w1 ∧ w' = (w1.drew.setCell ⟨b, 0, none⟩ (.int .u32 1)).setCell ⟨b, 1, none⟩ (.int .i32 0) := by
  have hnot : ∀ (x : Bool) (w : World), (Op.unary .not (.bool x)).run Tryz.prog w = .ok (.bool (!x)) w := fun _ _ => rfl
  go_enter Tryz.func163, Tryz.ntmps163
  go_wp2_with (first
    | (go_at_call 182; refine (done_get ⟨b, 0, none⟩ _ h0).mono ?_; rintro e w' ⟨rfl, rfl⟩)
    | (go_at_call 183; refine (slow_build b _ Q h0 h1 f0 f1 hC hQ).mono ?_; rintro e w' ⟨rfl, hq⟩))
  go_end0
  exact ⟨rfl, hq⟩
end Go.Proofs.YtiejmkjpgjbodaaGreatDoor

namespace Go.Proofs.YtiejmkjpgjbodaaGreatDoor
open Go.RowKit
set_option linter.unusedVariables false
set_option linter.unusedSimpArgs false
set_option maxRecDepth 100000
set_option maxHeartbeats 2000000 in
theorem buildE_any (b g c : Nat) (w : World) (ho : w.cell? ⟨b, 4, none⟩ = some (.slice (some ⟨g, 0, none⟩) 8 c)) (hg : OldNewE g w) :
    Calls Tryz.prog 184 #[.pointer (some ⟨b, 0, none⟩)] w fun e w' => e = .returned (.iface 226 (.pointer (some ⟨w.heap.size, 0, none⟩))) ∧ TrieX w.heap.size w.heap.size w' ∧ Below w.heap.size w w' := by
  have g0 := (hg 0 (by omega)).1
  have g1 := (hg 0 (by omega)).2
  have g2 := (hg 1 (by omega)).1
  have g3 := (hg 1 (by omega)).2
  have g4 := (hg 2 (by omega)).1
  have g5 := (hg 2 (by omega)).2
  have g6 := (hg 3 (by omega)).1
  have e0 : w.cell? ⟨g, 0, none⟩ = some (.string ⟨#[38]⟩) := g0
  have e1 : w.cell? ⟨g, 1, none⟩ = some (.string ⟨#[38, 97, 109, 112, 59]⟩) := g1
  have e2 : w.cell? ⟨g, 2, none⟩ = some (.string ⟨#[60]⟩) := g2
  have e3 : w.cell? ⟨g, 3, none⟩ = some (.string ⟨#[38, 108, 116, 59]⟩) := g3
  have e4 : w.cell? ⟨g, 4, none⟩ = some (.string ⟨#[62]⟩) := g4
  have e5 : w.cell? ⟨g, 5, none⟩ = some (.string ⟨#[38, 103, 116, 59]⟩) := g5
  have e6 : w.cell? ⟨g, 6, none⟩ = some (.string ⟨#[194, 160]⟩) := g6
  have HG := hide hg
  clear g0 g1 g2 g3 g4 g5 g6 hg
  go_enter Tryz.func184, Tryz.ntmps184
  go_wp2_with fail
  go_loop [4, 5] (fun a i => (i = .int .i64 0 ∧ a = .bool true) ∨ (i = .int .i64 2 ∧ a = .bool false) ∨ (i = .int .i64 4 ∧ a = .bool false) ∨ (i = .int .i64 6 ∧ a = .bool false)) (fun _ i => 8 - (intOf i).toNat)
  case atStart => exact .inl ⟨rfl, rfl⟩
  case round =>
    rcases hrel with ⟨rfl, rfl⟩ | ⟨rfl, rfl⟩ | ⟨rfl, rfl⟩ | ⟨rfl, rfl⟩
    · go_wp2_with fail
      exact ⟨.inr (.inl ⟨rfl, rfl⟩), by decide⟩
    · go_wp2_with fail
      exact ⟨.inr (.inr (.inl ⟨rfl, rfl⟩)), by decide⟩
    · go_wp2_with fail
      exact ⟨.inr (.inr (.inr ⟨rfl, rfl⟩)), by decide⟩
    · go_wp2_with (go_at_call 215; refine (makeGen_any g c _ HG.out).mono ?_; rintro e w1 ⟨rfl, ht, hb⟩; have HT := hide ht; have HB := hide hb; clear ht hb)
      go_ret
      exact ⟨rfl, HT.out, HB.out⟩
def BuiltE (W : World) (b : Nat) (w w' : World) : Prop :=
  TrieX w.heap.size w.heap.size w' ∧ Below W.heap.size W w' ∧ w.heap.size ≤ w'.heap.size ∧ w'.cell? ⟨b, 3, none⟩ = some (.iface 226 (.pointer (some ⟨w.heap.size, 0, none⟩))) ∧
  w'.cell? ⟨b, 0, none⟩ = some (.int .u32 0) ∧ w'.cell? ⟨b, 1, none⟩ = some (.int .i32 1) ∧ w'.frozen? ⟨b, 0, none⟩ = false ∧ w'.frozen? ⟨b, 1, none⟩ = false
set_option maxHeartbeats 2000000 in
theorem buildOnceE_any (b g c : Nat) (W w : World) (hW : Below W.heap.size W w) (hWb : W.heap.size ≤ b) (h0 : w.cell? ⟨b, 0, none⟩ = some (.int .u32 0)) (h1 : w.cell? ⟨b, 1, none⟩ = some (.int .i32 1)) (h3 : w.cell? ⟨b, 3, none⟩ = some .nilIface)
    (hf : ∀ i : Nat, w.frozen? ⟨b, i, none⟩ = false) (h4 : w.cell? ⟨b, 4, none⟩ = some (.slice (some ⟨g, 0, none⟩) 8 c)) (hg : OldNewE g w) :
    Calls Tryz.prog 164 #[.pointer (some ⟨b, 0, none⟩)] w fun e w' => e = .returned (.tuple #[]) ∧ BuiltE W b w w' := by
  have hbl : b < w.heap.size := World.block_lt_of_cell? w _ h0
  have HF := hide hf
  have HG := hide hg
  clear hf hg
  go_enter Tryz.func164, Tryz.ntmps164
  go_wp2_with (go_at_call 184; refine (buildE_any b g c _ h4 HG.out).mono ?_; rintro e w2 ⟨rfl, ht, hb2⟩; have HT := hide ht; have k3 := (hb2.cell (p := ⟨b, 3, none⟩) hbl).trans h3; have k4 := (hb2.cell (p := ⟨b, 4, none⟩) hbl).trans h4; have z3 := (hb2.frozen (p := ⟨b, 3, none⟩) hbl).trans (HF.out 3); have z4 := (hb2.frozen (p := ⟨b, 4, none⟩) hbl).trans (HF.out 4); have HB2 := hide hb2; clear ht hb2)
  go_end0
  have k0 := (HB2.out.cell (p := ⟨b, 0, none⟩) hbl).trans h0
  have k1 := (HB2.out.cell (p := ⟨b, 1, none⟩) hbl).trans h1
  have z0 := (HB2.out.frozen (p := ⟨b, 0, none⟩) hbl).trans (HF.out 0)
  have z1 := (HB2.out.frozen (p := ⟨b, 1, none⟩) hbl).trans (HF.out 1)
  have hWw : W.heap.size ≤ w.heap.size := hW.size
  refine ⟨rfl, (HT.out.set hbl _).set hbl _, ((hW.trans (HB2.out.mono hWw)).setCell hWb _).setCell hWb _, ?_, ?_, ?_, ?_, ?_, ?_⟩
  · rw [z_set, z_set]; exact HB2.out.size
  · exact (World.cell?_setCell_other _ _ _ _ (ne_off (by decide))).trans (World.cell?_setCell_same _ _ _ k3)
  · exact ((World.cell?_setCell_other _ _ _ _ (ne_off (by decide))).trans (World.cell?_setCell_other _ _ _ _ (ne_off (by decide)))).trans k0
  · exact ((World.cell?_setCell_other _ _ _ _ (ne_off (by decide))).trans (World.cell?_setCell_other _ _ _ _ (ne_off (by decide)))).trans k1
  · rw [World.frozen?_setCell, World.frozen?_setCell]; exact z0
  · rw [World.frozen?_setCell, World.frozen?_setCell]; exact z1
def NewE (b : Nat) (w : World) : Prop :=
  w.cell? ⟨b, 0, none⟩ = some (.int .u32 0) ∧ w.cell? ⟨b, 1, none⟩ = some (.int .i32 0) ∧ w.cell? ⟨b, 3, none⟩ = some .nilIface ∧ (∀ i : Nat, w.frozen? ⟨b, i, none⟩ = false) ∧ ∃ g c : Nat, w.cell? ⟨b, 4, none⟩ = some (.slice (some ⟨g, 0, none⟩) 8 c) ∧ OldNewE g w ∧ b ≠ g
theorem doE_build (b : Nat) (W w : World) (hW : Below W.heap.size W w) (hWb : W.heap.size ≤ b) (hn : NewE b w) :
    Calls Tryz.prog 163 #[.pointer (some ⟨b, 0, none⟩), .func (.func 164) #[.pointer (some ⟨b, 0, none⟩)] #[]] w fun e w' => e = .returned (.tuple #[]) ∧
      TrieX w.heap.size w.heap.size w' ∧ Below W.heap.size W w' ∧ w.heap.size ≤ w'.heap.size ∧ w'.cell? ⟨b, 3, none⟩ = some (.iface 226 (.pointer (some ⟨w.heap.size, 0, none⟩))) := by
  obtain ⟨h0, h1, h3, hf, g, c, h4, ho, hbg⟩ := hn
  have hbl : b < w.heap.size := World.block_lt_of_cell? w _ h0
  have es : (w.setCell ⟨b, 1, none⟩ (.int .i32 1)).heap.size = w.heap.size := World.size_setCell ..
  have hb := buildOnceE_any b g c W (w.setCell ⟨b, 1, none⟩ (.int .i32 1)) (hW.setCell hWb _) hWb
    ((World.cell?_setCell_other _ _ _ _ (ne_off (by decide))).trans h0) (World.cell?_setCell_same _ _ _ h1) ((World.cell?_setCell_other _ _ _ _ (ne_off (by decide))).trans h3)
    (fun i => by rw [World.frozen?_setCell]; exact hf i) ((World.cell?_setCell_other _ _ _ _ (ne_off (by decide))).trans h4)
    (fun k hk => ⟨(World.cell?_setCell_other _ _ _ _ (ne_blk hbg)).trans (ho k hk).1, (World.cell?_setCell_other _ _ _ _ (ne_blk hbg)).trans (ho k hk).2⟩)
  refine (once_build b w _ h0 h1 (hf 0) (hf 1) hb (fun w' hq => ⟨hq.2.2.2.2.1, hq.2.2.2.2.2.1, hq.2.2.2.2.2.2.1, hq.2.2.2.2.2.2.2⟩)).mono ?_
  rintro e w' ⟨rfl, w1, hq, rfl⟩
  obtain ⟨q1, q2, q3, q4, _⟩ := hq
  rw [es] at q1 q3 q4
  refine ⟨rfl, ((q1.drew).set hbl _).set hbl _, ((q2.drew).setCell hWb _).setCell hWb _, ?_, ?_⟩
  · rw [z_set, z_set]; exact q3
  · refine ((World.cell?_setCell_other _ _ _ _ (ne_off (by decide))).trans (World.cell?_setCell_other _ _ _ _ (ne_off (by decide)))).trans ?_
    rw [World.cell?_drew]; exact q4
theorem meth_generic (a : Addr) (w : World) : (method 423 226 (.pointer (some a)) "Replace").run Tryz.prog w = .ok (307, .pointer (some a)) w := by kernel_rfl
set_option maxHeartbeats 2000000 in
theorem replacerE_any (s : ByteArray) (b : Nat) (W w : World) (hW : Below W.heap.size W w) (hWb : W.heap.size ≤ b) (hn : NewE b w) (hs : s.size ≤ 17592186044416) :
    Calls Tryz.prog 138 #[.pointer (some ⟨b, 0, none⟩), .string s] w fun e w' => e = .returned (.string (str (escQ false s.data.toList))) ∧ Below W.heap.size W w' := by
  rw [← escG_Q]
  have hmt := meth_generic
  have HD := hide (doE_build b W w hW hWb hn)
  have HS := hide hs
  have HW := hide hW.size
  clear hW hs hn
  go_enter Tryz.func138, Tryz.ntmps138
  go_wp2_with (first
    | (go_at_call 163; refine HD.out.mono ?_; rintro e w1 ⟨rfl, hr1, hb1, hz1, hc1⟩; have HR1 := hide hr1; have HB1 := hide hb1; have HZ1 := hide hz1; clear hr1 hb1 hz1)
    | (go_at_call 307; obtain ⟨T, n0, n1, n2, n4, n5, ht, _, hi⟩ := HR1.out; refine (greplace_any s _ T n0 n1 n2 n4 n5 _ ht hi HS.out).mono ?_; rintro e w2 ⟨rfl, hb2⟩; have HB2 := hide hb2; clear hb2 ht hi))
  go_ret
  exact ⟨rfl, HB1.out.trans (HB2.out.mono HB1.out.size)⟩
theorem newReplacerE_any (g : Nat) (w : World) (hg : OldNewE g w) :
    Calls Tryz.prog 137 #[.slice (some ⟨g, 0, none⟩) 8 8] w fun e w' => ∃ b : Nat, e = .returned (.pointer (some ⟨b, 0, none⟩)) ∧ w.heap.size ≤ b ∧ Below w.heap.size w w' ∧ NewE b w' := by
  have g0 := (hg 0 (by omega)).1
  have g1 := (hg 0 (by omega)).2
  have g2 := (hg 1 (by omega)).1
  have g3 := (hg 1 (by omega)).2
  have g4 := (hg 2 (by omega)).1
  have g5 := (hg 2 (by omega)).2
  have g6 := (hg 3 (by omega)).1
  have g7 := (hg 3 (by omega)).2
  have e0 : w.cell? ⟨g, 0, none⟩ = some (.string ⟨#[38]⟩) := g0
  have e1 : w.cell? ⟨g, 1, none⟩ = some (.string ⟨#[38, 97, 109, 112, 59]⟩) := g1
  have e2 : w.cell? ⟨g, 2, none⟩ = some (.string ⟨#[60]⟩) := g2
  have e3 : w.cell? ⟨g, 3, none⟩ = some (.string ⟨#[38, 108, 116, 59]⟩) := g3
  have e4 : w.cell? ⟨g, 4, none⟩ = some (.string ⟨#[62]⟩) := g4
  have e5 : w.cell? ⟨g, 5, none⟩ = some (.string ⟨#[38, 103, 116, 59]⟩) := g5
  have e6 : w.cell? ⟨g, 6, none⟩ = some (.string ⟨#[194, 160]⟩) := g6
  have e7 : w.cell? ⟨g, 7, none⟩ = some (.string ⟨#[38, 110, 98, 115, 112, 59]⟩) := g7
  clear g0 g1 g2 g3 g4 g5 g6 g7 hg
  go_enter Tryz.func137, Tryz.ntmps137
  go_wp2_with fail
  go_ret
  generalize (Question.appendCap 8 0 9).cut _ = cp
  have es : ∀ C T, (w.alloc (.cells C T)).heap.size = w.heap.size + 1 := fun C T => World.size_alloc ..
  refine ⟨w.heap.size + 1, rfl, Nat.le_succ _, (((Below.refl _ w).alloc (Nat.le_refl _) _).alloc (by rw [es]; exact Nat.le_succ _) _).drew, ?_, ?_, ?_, fun i => ?_, w.heap.size, cp, ?_, fun k hk => ?_, by omega⟩
  · rw [World.cell?_drew, World.cell?_alloc_at _ _ _ _ (es _ _).symm]; rfl
  · rw [World.cell?_drew, World.cell?_alloc_at _ _ _ _ (es _ _).symm]; rfl
  · rw [World.cell?_drew, World.cell?_alloc_at _ _ _ _ (es _ _).symm]; rfl
  · rw [World.frozen?_drew]; exact World.frozen?_alloc_at _ _ _ _ (es _ _).symm
  · rw [World.cell?_drew, World.cell?_alloc_at _ _ _ _ (es _ _).symm]; rfl
  · match k, hk with
    | 0, _ => exact ⟨by rw [World.cell?_drew, World.cell?_alloc_past _ _ _ (by rw [es]; exact Nat.lt_succ_self _), World.cell?_alloc_at _ _ _ _ rfl, Array.getElem?_append_left (by decide)]; rfl, by rw [World.cell?_drew, World.cell?_alloc_past _ _ _ (by rw [es]; exact Nat.lt_succ_self _), World.cell?_alloc_at _ _ _ _ rfl, Array.getElem?_append_left (by decide)]; rfl⟩
    | 1, _ => exact ⟨by rw [World.cell?_drew, World.cell?_alloc_past _ _ _ (by rw [es]; exact Nat.lt_succ_self _), World.cell?_alloc_at _ _ _ _ rfl, Array.getElem?_append_left (by decide)]; rfl, by rw [World.cell?_drew, World.cell?_alloc_past _ _ _ (by rw [es]; exact Nat.lt_succ_self _), World.cell?_alloc_at _ _ _ _ rfl, Array.getElem?_append_left (by decide)]; rfl⟩
    | 2, _ => exact ⟨by rw [World.cell?_drew, World.cell?_alloc_past _ _ _ (by rw [es]; exact Nat.lt_succ_self _), World.cell?_alloc_at _ _ _ _ rfl, Array.getElem?_append_left (by decide)]; rfl, by rw [World.cell?_drew, World.cell?_alloc_past _ _ _ (by rw [es]; exact Nat.lt_succ_self _), World.cell?_alloc_at _ _ _ _ rfl, Array.getElem?_append_left (by decide)]; rfl⟩
    | 3, _ => exact ⟨by rw [World.cell?_drew, World.cell?_alloc_past _ _ _ (by rw [es]; exact Nat.lt_succ_self _), World.cell?_alloc_at _ _ _ _ rfl, Array.getElem?_append_left (by decide)]; rfl, by rw [World.cell?_drew, World.cell?_alloc_past _ _ _ (by rw [es]; exact Nat.lt_succ_self _), World.cell?_alloc_at _ _ _ _ rfl, Array.getElem?_append_left (by decide)]; rfl⟩
theorem old_newE (w : World) (t : TypeId) : OldNewE w.heap.size (w.alloc (.cells #[.string ⟨#[38]⟩, .string ⟨#[38, 97, 109, 112, 59]⟩, .string ⟨#[60]⟩, .string ⟨#[38, 108, 116, 59]⟩, .string ⟨#[62]⟩, .string ⟨#[38, 103, 116, 59]⟩, .string ⟨#[194, 160]⟩, .string ⟨#[38, 110, 98, 115, 112, 59]⟩] t)) := by
  intro k hk
  match k, hk with
  | 0, _ => exact ⟨by rw [World.cell?_alloc_at _ _ _ _ rfl]; rfl, by rw [World.cell?_alloc_at _ _ _ _ rfl]; rfl⟩
  | 1, _ => exact ⟨by rw [World.cell?_alloc_at _ _ _ _ rfl]; rfl, by rw [World.cell?_alloc_at _ _ _ _ rfl]; rfl⟩
  | 2, _ => exact ⟨by rw [World.cell?_alloc_at _ _ _ _ rfl]; rfl, by rw [World.cell?_alloc_at _ _ _ _ rfl]; rfl⟩
  | 3, _ => exact ⟨by rw [World.cell?_alloc_at _ _ _ _ rfl]; rfl, by rw [World.cell?_alloc_at _ _ _ _ rfl]; rfl⟩
set_option maxHeartbeats 2000000 in
theorem entText_any (s : ByteArray) (w : World) (hs : s.size ≤ 17592186044416) :
    Calls Tryz.prog 97 #[.string s] w fun e w' => e = .returned (.string (str (escQ false s.data.toList))) ∧ Below w.heap.size w w' := by
  obtain ⟨X, hX⟩ : ∃ X, X = str (escQ false s.data.toList) := ⟨_, rfl⟩
  have HX := hide hX
  have HON := hide (old_newE w 9)
  have HB0 : Hid (Below w.heap.size w (w.alloc (.cells #[.string ⟨#[38]⟩, .string ⟨#[38, 97, 109, 112, 59]⟩, .string ⟨#[60]⟩, .string ⟨#[38, 108, 116, 59]⟩, .string ⟨#[62]⟩, .string ⟨#[38, 103, 116, 59]⟩, .string ⟨#[194, 160]⟩, .string ⟨#[38, 110, 98, 115, 112, 59]⟩] 9))) := hide ((Below.refl _ w).alloc (Nat.le_refl _) _)
  rw [← hX]
  clear hX
  go_enter Tryz.func97, Tryz.ntmps97
  go_wp2_with (first
    | (go_at_call 137; refine (newReplacerE_any _ _ HON.out).mono ?_; rintro e w1 ⟨b, rfl, hbb, hb1, hn1⟩; have HN1 := hide hn1; have HB1 := hide (HB0.out.trans (hb1.mono HB0.out.size)); have HBB := hide (Nat.le_trans HB0.out.size hbb); clear hbb hb1 hn1)
    | (go_at_call 138; refine (replacerE_any s b w _ HB1.out HBB.out HN1.out hs).mono ?_; rw [← HX.out]; rintro e w2 ⟨rfl, hb2⟩; have HB2 := hide hb2; clear hb2))
  go_ret
  exact ⟨rfl, HB2.out⟩
end Go.Proofs.YtiejmkjpgjbodaaGreatDoor

