/- WALK of the closure of package b64 that gathers bits. No statement is proved here. -/
import Derived.Test.YtcmmbceacjechaaGreatDoorBaseM
import Derived.StillTailTactics
namespace Go.Proofs.YtcmmbceacjechaaGreatDoor
open Go.RowKit
set_option linter.unusedVariables false
set_option maxRecDepth 100000
set_option linter.unusedSimpArgs false

namespace WalkArithU64
theorem u64_in' (n : Nat) (h : n < 18446744073709551616) : IntKind.u64.wrap (n : Int) = n := by rw [IntKind.wrap_u64]; omega
end WalkArithU64
/-- where the gathering closure keeps its variables, and what they hold -/
structure Gat (size : Nat) (hf : FuncId) (B bw bh bs bd bo : Nat) (h wv : Nat) (w : World) : Prop where
  w1 : Box w bw 145 (.int .u64 wv)
  h1 : Box w bh 3 (.int .i64 h)
  s1 : Box w bs 3 (.int .i64 size)
  d1 : Box w bd 166 (.func (.func hf) #[] #[.pointer (some ⟨bo, 0, none⟩)])
  hs : bh ≠ bs
  lw : B ≤ bw
  lh : B ≤ bh
  no : bh ≠ bo
  wo : bw ≠ bo
  so : bs ≠ bo
  eo : bd ≠ bo

/-- pieces are handed on as long as there are enough bits -/
def runBits (size : Nat) (f : Nat → UInt8) (h wv : Nat) (acc : List UInt8) : Nat × Nat × List UInt8 :=
  if h0 : 0 < size ∧ size ≤ h then runBits size f (h - size) (wv % 2 ^ (h - size)) (acc ++ [f (wv / 2 ^ (h - size))]) else (h, wv, acc)
termination_by h
decreasing_by omega

theorem Gat.bw_bh {size : Nat} {hf : FuncId} {B bw bh bs bd bo h wv : Nat} {w : World} (g : Gat size hf B bw bh bs bd bo h wv w) : bw ≠ bh ∧ bw ≠ bs ∧ bw ≠ bd ∧ bh ≠ bd :=
  ⟨g.w1.ne g.h1 (by decide), g.w1.ne g.s1 (by decide), g.w1.ne g.d1 (by decide), g.h1.ne g.d1 (by decide)⟩
theorem Gat.setW {size : Nat} {hf : FuncId} {B bw bh bs bd bo h wv : Nat} {w : World} (g : Gat size hf B bw bh bs bd bo h wv w) (x : Nat) : Gat size hf B bw bh bs bd bo h x (w.setCell ⟨bw, 0, none⟩ (.int .u64 x)) := by
  obtain ⟨n1, n2, n3, n4⟩ := g.bw_bh
  exact ⟨g.w1.set _, g.h1.far (Ne.symm n1) _, g.s1.far (Ne.symm n2) _, g.d1.far (Ne.symm n3) _, g.hs, g.lw, g.lh, g.no, g.wo, g.so, g.eo⟩
theorem Gat.setH {size : Nat} {hf : FuncId} {B bw bh bs bd bo h wv : Nat} {w : World} (g : Gat size hf B bw bh bs bd bo h wv w) (x : Nat) : Gat size hf B bw bh bs bd bo x wv (w.setCell ⟨bh, 0, none⟩ (.int .i64 x)) := by
  obtain ⟨n1, n2, n3, n4⟩ := g.bw_bh
  exact ⟨g.w1.far n1 _, g.h1.set _, g.s1.far (Ne.symm g.hs) _, g.d1.far (Ne.symm n4) _, g.hs, g.lw, g.lh, g.no, g.wo, g.so, g.eo⟩
theorem Gat.drew {size : Nat} {hf : FuncId} {B bw bh bs bd bo h wv : Nat} {w : World} (g : Gat size hf B bw bh bs bd bo h wv w) : Gat size hf B bw bh bs bd bo h wv w.drew :=
  ⟨g.w1, g.h1, g.s1, g.d1, g.hs, g.lw, g.lh, g.no, g.wo, g.so, g.eo⟩
theorem Gat.drewN {size : Nat} {hf : FuncId} {B bw bh bs bd bo h wv : Nat} {w : World} (g : Gat size hf B bw bh bs bd bo h wv w) (n : Nat) : Gat size hf B bw bh bs bd bo h wv (w.drewN n) :=
  ⟨g.w1, g.h1, g.s1, g.d1, g.hs, g.lw, g.lh, g.no, g.wo, g.so, g.eo⟩
theorem Gat.kept {size : Nat} {hf : FuncId} {B bw bh bs bd bo h wv : Nat} {w w' : World} (g : Gat size hf B bw bh bs bd bo h wv w) (k : KeptBut bo w w') : Gat size hf B bw bh bs bd bo h wv w' :=
  ⟨k _ _ _ (by decide) g.wo g.w1, k _ _ _ (by decide) g.no g.h1, k _ _ _ (by decide) g.so g.s1, k _ _ _ (by decide) g.eo g.d1, g.hs, g.lw, g.lh, g.no, g.wo, g.so, g.eo⟩
theorem Gat.alloc {size : Nat} {hf : FuncId} {B bw bh bs bd bo h wv : Nat} {w : World} (g : Gat size hf B bw bh bs bd bo h wv w) (o : Obj) : Gat size hf B bw bh bs bd bo h wv (w.alloc o) :=
  ⟨g.w1.alloc o, g.h1.alloc o, g.s1.alloc o, g.d1.alloc o, g.hs, g.lw, g.lh, g.no, g.wo, g.so, g.eo⟩
theorem Out.setW {size : Nat} {hf : FuncId} {B bw bh bs bd bo h wv : Nat} {l : List UInt8} {W0 w : World} (o : Out B bo l W0 w) (g : Gat size hf B bw bh bs bd bo h wv w) (x : Value) : Out B bo l W0 (w.setCell ⟨bw, 0, none⟩ x) := o.set g.w1 (by decide) g.wo g.lw x
theorem Out.setH {size : Nat} {hf : FuncId} {B bw bh bs bd bo h wv : Nat} {l : List UInt8} {W0 w : World} (o : Out B bo l W0 w) (g : Gat size hf B bw bh bs bd bo h wv w) (x : Value) : Out B bo l W0 (w.setCell ⟨bh, 0, none⟩ x) := o.set g.h1 (by decide) g.no g.lh x

theorem or_low (k a n : Nat) (hn : n < 2 ^ k) (h : a * 2 ^ k + n < 18446744073709551616) : bits .or .u64 ((a : Int) * 2 ^ k) (n : Int) = ((a * 2 ^ k + n : Nat) : Int) := by
  have e : ((a : Int) * 2 ^ k) = ((a * 2 ^ k : Nat) : Int) := by simp
  rw [e, bits_or_u64_nat _ _ (by omega) (by omega)]
  congr 1
  rw [Nat.mul_comm, Nat.two_pow_add_eq_or_of_lt hn]
theorem wrap_shl (k a : Nat) (h : a * 2 ^ k < 18446744073709551616) : IntKind.u64.wrap ((a : Int) * 2 ^ k) = (a : Int) * 2 ^ k := by
  have e : ((a : Int) * 2 ^ k) = ((a * 2 ^ k : Nat) : Int) := by simp
  rw [e]
  exact WalkArithU64.u64_in' _ (by omega)
theorem and_low (k a : Nat) (hk : k < 60) (ha : a < 18446744073709551616) : bits .and .u64 (a : Int) (IntKind.u64.wrap (IntKind.u64.wrap (2 ^ k) - 1)) = ((a % 2 ^ k : Nat) : Int) := by
  have hp := Nat.two_pow_pos k
  have hp2 : 2 ^ k < 18446744073709551616 := Nat.lt_of_lt_of_le (Nat.pow_lt_pow_right (by omega) hk) (by decide)
  have e : ((2 : Int) ^ k) = ((2 ^ k : Nat) : Int) := by simp
  rw [e, WalkArithU64.u64_in' _ hp2]
  have e2 : (((2 ^ k : Nat) : Int) - 1) = ((2 ^ k - 1 : Nat) : Int) := by omega
  rw [e2, WalkArithU64.u64_in' _ (by omega), bits_and_u64_nat _ _ ha (by omega), Nat.and_two_pow_sub_one_eq_mod]

set_option maxHeartbeats 2000000 in
theorem gatDec (B bw bh bs bd bo : Nat) (b h wv n : Nat) (acc : List UInt8) (W0 w : World) (hhb : h + b ≤ 13) (hw : wv < 2 ^ h) (hn : n < 2 ^ b)
    (hg : Gat 8 242 B bw bh bs bd bo h wv w) (ho : Out B bo acc W0 w) (hl : acc.length ≤ 1048576) :
    Calls Tryz.prog 224 #[.int .u64 n, .int .i64 b, .pointer (some ⟨bw, 0, none⟩), .pointer (some ⟨bh, 0, none⟩), .pointer (some ⟨bs, 0, none⟩), .pointer (some ⟨bd, 0, none⟩)] w fun e w' =>
      ∃ h' wv' acc', runBits 8 UInt8.ofNat (h + b) (wv * 2 ^ b + n) acc = (h', wv', acc') ∧ e = .returned (.int .i64 h') ∧ Gat 8 242 B bw bh bs bd bo h' wv' w' ∧ Out B bo acc' W0 w' := by
  have hm2 : wv * 2 ^ b + n < 2 ^ (h + b) := by
    rw [Nat.pow_add]
    have h1 : (wv + 1) * 2 ^ b ≤ 2 ^ h * 2 ^ b := Nat.mul_le_mul_right _ hw
    rw [Nat.add_mul] at h1
    omega
  have hm3 : 2 ^ (h + b) ≤ 8192 := Nat.pow_le_pow_right (n := 2) (i := h + b) (j := 13) (by omega) hhb
  have hor := or_low b wv n hn (by omega)
  have hwr := wrap_shl b wv (by omega)
  have hb0 : (0 : Int) ≤ b := by omega
  obtain ⟨m, hm⟩ : ∃ m, m = wv * 2 ^ b + n := ⟨_, rfl⟩
  rw [← hm] at hm2 hor ⊢
  have c1 := hg.w1.cell
  have f1 := hg.w1.free
  have hg1 := hg.setW m
  have ho1 := ho.setW hg (.int .u64 m)
  have c2 := hg1.h1.cell
  have f2 := hg1.h1.free
  have hg2 := hg1.setH (h + b)
  have ho2 := ho1.setH hg1 (.int .i64 (h + b : Nat))
  have HG := hide hg2
  have HO := hide ho2
  have HM := hide hm
  have HM2 := hide hm2
  clear hg ho hg1 ho1 hg2 ho2 hm hm2 hm3
  go_enter Tryz.func224, Tryz.ntmps224
  go_wp2_with fail
  go_loopw [17] (fun _ wr => ∃ (h' wv' : Nat) (acc' : List UInt8), runBits 8 UInt8.ofNat (h + b) m acc = runBits 8 UInt8.ofNat h' wv' acc' ∧ Gat 8 242 B bw bh bs bd bo h' wv' wr ∧ Out B bo acc' W0 wr ∧ h' ≤ 13 ∧ wv' < 2 ^ h' ∧ acc'.length + h' ≤ acc.length + h + b) (fun _ wr => (intOf ((wr.cell? ⟨bh, 0, none⟩).getD undef)).toNat)
  case atStart => exact ⟨h + b, m, acc, rfl, by simpa using HG.out, by simpa using HO.out, by omega, HM2.out, by omega⟩
  case round =>
    obtain ⟨h', wv', acc', hr, hg, ho, hh', hw', hl'⟩ := hrel
    have HR := hide hr
    clear hr
    have c1 := hg.w1.cell
    have c2 := hg.h1.cell
    have c3 := hg.s1.cell
    have c4 := hg.d1.cell
    have f2 := hg.h1.free
    by_cases h8 : 8 ≤ h'
    · obtain ⟨k, rfl⟩ : ∃ k, h' = k + 8 := ⟨h' - 8, by omega⟩
      have hg1 := hg.setH k
      have ho1 := ho.setH hg (.int .i64 k)
      have d1 := hg1.w1.cell
      have d2 := hg1.h1.cell
      have d4 := hg1.d1.cell
      have HG1 := hide hg1
      have HO1 := hide ho1
      have hp13 : wv' < 8192 := Nat.lt_of_lt_of_le hw' (Nat.pow_le_pow_right (n := 2) (j := 13) (by omega) hh')
      have HAND := hide (and_low k wv' (by omega) (by omega))
      have hmod : wv' % 2 ^ k < 2 ^ k := Nat.mod_lt _ (Nat.two_pow_pos k)
      have hq : wv' / 2 ^ k < 256 := by rw [Nat.div_lt_iff_lt_mul (Nat.two_pow_pos k)]; rw [Nat.pow_add] at hw'; omega
      have HMOD := hide hmod
      clear hg ho hg1 ho1 hmod
      go_wp2_with fail
      generalize wr.setCell ⟨bh, 0, none⟩ (.int .i64 k) = wx at *
      have k0 : (0 : Int) ≤ k := by omega
      have hpc : ((wv' : Int) / 2 ^ k) = ((UInt8.ofNat (wv' / 2 ^ k)).toNat : Int) := by
        rw [UInt8.toNat_ofNat', Nat.mod_eq_of_lt hq]
        simp
      have HPC := hide hpc
      clear hpc
      go_still_tail 4, (by kernel_rfl)
      change wpList _ _ _ _ _ wx.drew
      go_wp2_with fail
      rw [HPC.out]
      refine (decHand_any B bo acc' W0 wx.drew (UInt8.ofNat (wv' / 2 ^ k)) HO1.out.drew (by omega)).mono ?_
      rintro e w3 ⟨rfl, ho3, hk3⟩
      have hg3 := (HG1.out.drew).kept hk3
      have g1 := hg3.w1.cell
      have g2 := hg3.h1.cell
      have g3 := hg3.w1.free
      have HG4 := hide (hg3.setW (wv' % 2 ^ k))
      have HO4 := hide (ho3.setW hg3 (.int .u64 (wv' % 2 ^ k : Nat)))
      have hd4 : (w3.setCell ⟨bw, 0, none⟩ (.int .u64 (wv' % 2 ^ k : Nat))).cell? ⟨bh, 0, none⟩ = some (.int .i64 k) := HG4.out.h1.cell
      have HD4 := hide hd4
      clear hg3 ho3 hk3 d1 d2 d4 c1 c3 c4 f2 hd4
      have C2 := hide c2
      clear c2
      go_wp2_with fail
      have hand := HAND.out
      go_still_tail 5, (by kernel_rfl)
      change wpList _ _ _ _ _ w3.drew
      clear hand
      go_wp2_with fail
      go_roundw
      case rel => exact ⟨k, wv' % 2 ^ k, acc' ++ [UInt8.ofNat (wv' / 2 ^ k)], by rw [HR.out, runBits, dif_pos (by omega)]; simp, by simpa using HG4.out.drew, by simpa using HO4.out.drew, by omega, HMOD.out, by simp; omega⟩
      case measure =>
        have h1 := HD4.out
        have h2 := C2.out
        simp at h1
        simp [h1, h2, intOf]
        omega
    · have HG1 := hide hg
      have HO1 := hide ho
      clear hg ho
      go_wp2_with fail
      go_ret
      exact ⟨h', wv', acc', by rw [HR.out, runBits, dif_neg (by omega)], rfl, HG1.out, HO1.out⟩

set_option maxHeartbeats 2000000 in
theorem gatEnc (B bw bh bs bd bo : Nat) (b h wv n : Nat) (acc : List UInt8) (W0 w : World) (hhb : h + b ≤ 13) (hw : wv < 2 ^ h) (hn : n < 2 ^ b)
    (hg : Gat 6 200 B bw bh bs bd bo h wv w) (ho : Out B bo acc W0 w) (hl : acc.length ≤ 1048576) :
    Calls Tryz.prog 224 #[.int .u64 n, .int .i64 b, .pointer (some ⟨bw, 0, none⟩), .pointer (some ⟨bh, 0, none⟩), .pointer (some ⟨bs, 0, none⟩), .pointer (some ⟨bd, 0, none⟩)] w fun e w' =>
      ∃ h' wv' acc', runBits 6 letter (h + b) (wv * 2 ^ b + n) acc = (h', wv', acc') ∧ e = .returned (.int .i64 h') ∧ Gat 6 200 B bw bh bs bd bo h' wv' w' ∧ Out B bo acc' W0 w' := by
  have hm2 : wv * 2 ^ b + n < 2 ^ (h + b) := by
    rw [Nat.pow_add]
    have h1 : (wv + 1) * 2 ^ b ≤ 2 ^ h * 2 ^ b := Nat.mul_le_mul_right _ hw
    rw [Nat.add_mul] at h1
    omega
  have hm3 : 2 ^ (h + b) ≤ 8192 := Nat.pow_le_pow_right (n := 2) (i := h + b) (j := 13) (by omega) hhb
  have hor := or_low b wv n hn (by omega)
  have hwr := wrap_shl b wv (by omega)
  have hb0 : (0 : Int) ≤ b := by omega
  obtain ⟨m, hm⟩ : ∃ m, m = wv * 2 ^ b + n := ⟨_, rfl⟩
  rw [← hm] at hm2 hor ⊢
  have c1 := hg.w1.cell
  have f1 := hg.w1.free
  have hg1 := hg.setW m
  have ho1 := ho.setW hg (.int .u64 m)
  have c2 := hg1.h1.cell
  have f2 := hg1.h1.free
  have hg2 := hg1.setH (h + b)
  have ho2 := ho1.setH hg1 (.int .i64 (h + b : Nat))
  have HG := hide hg2
  have HO := hide ho2
  have HM := hide hm
  have HM2 := hide hm2
  clear hg ho hg1 ho1 hg2 ho2 hm hm2 hm3
  go_enter Tryz.func224, Tryz.ntmps224
  go_wp2_with fail
  go_loopw [17] (fun _ wr => ∃ (h' wv' : Nat) (acc' : List UInt8), runBits 6 letter (h + b) m acc = runBits 6 letter h' wv' acc' ∧ Gat 6 200 B bw bh bs bd bo h' wv' wr ∧ Out B bo acc' W0 wr ∧ h' ≤ 13 ∧ wv' < 2 ^ h' ∧ acc'.length + h' ≤ acc.length + h + b) (fun _ wr => (intOf ((wr.cell? ⟨bh, 0, none⟩).getD undef)).toNat)
  case atStart => exact ⟨h + b, m, acc, rfl, by simpa using HG.out, by simpa using HO.out, by omega, HM2.out, by omega⟩
  case round =>
    obtain ⟨h', wv', acc', hr, hg, ho, hh', hw', hl'⟩ := hrel
    have HR := hide hr
    clear hr
    have c1 := hg.w1.cell
    have c2 := hg.h1.cell
    have c3 := hg.s1.cell
    have c4 := hg.d1.cell
    have f2 := hg.h1.free
    by_cases h8 : 6 ≤ h'
    · obtain ⟨k, rfl⟩ : ∃ k, h' = k + 6 := ⟨h' - 6, by omega⟩
      have hg1 := hg.setH k
      have ho1 := ho.setH hg (.int .i64 k)
      have d1 := hg1.w1.cell
      have d2 := hg1.h1.cell
      have d4 := hg1.d1.cell
      have HG1 := hide hg1
      have HO1 := hide ho1
      have hp13 : wv' < 8192 := Nat.lt_of_lt_of_le hw' (Nat.pow_le_pow_right (n := 2) (j := 13) (by omega) hh')
      have HAND := hide (and_low k wv' (by omega) (by omega))
      have hmod : wv' % 2 ^ k < 2 ^ k := Nat.mod_lt _ (Nat.two_pow_pos k)
      have hq : wv' / 2 ^ k < 64 := by rw [Nat.div_lt_iff_lt_mul (Nat.two_pow_pos k)]; rw [Nat.pow_add] at hw'; omega
      have HMOD := hide hmod
      clear hg ho hg1 ho1 hmod
      go_wp2_with fail
      generalize wr.setCell ⟨bh, 0, none⟩ (.int .i64 k) = wx at *
      have k0 : (0 : Int) ≤ k := by omega
      have hpc : ((wv' : Int) / 2 ^ k) = ((wv' / 2 ^ k : Nat) : Int) := by simp
      have HPC := hide hpc
      clear hpc
      go_still_tail 4, (by kernel_rfl)
      change wpList _ _ _ _ _ wx.drew
      go_wp2_with fail
      rw [HPC.out]
      refine (encHand_any B bo acc' W0 wx.drew (wv' / 2 ^ k) hq HO1.out.drew (by omega)).mono ?_
      rintro e w3 ⟨rfl, ho3, hk3⟩
      have hg3 := (HG1.out.drew).kept hk3
      have g1 := hg3.w1.cell
      have g2 := hg3.h1.cell
      have g3 := hg3.w1.free
      have HG4 := hide (hg3.setW (wv' % 2 ^ k))
      have HO4 := hide (ho3.setW hg3 (.int .u64 (wv' % 2 ^ k : Nat)))
      have hd4 : (w3.setCell ⟨bw, 0, none⟩ (.int .u64 (wv' % 2 ^ k : Nat))).cell? ⟨bh, 0, none⟩ = some (.int .i64 k) := HG4.out.h1.cell
      have HD4 := hide hd4
      clear hg3 ho3 hk3 d1 d2 d4 c1 c3 c4 f2 hd4
      have C2 := hide c2
      clear c2
      go_wp2_with fail
      have hand := HAND.out
      go_still_tail 5, (by kernel_rfl)
      change wpList _ _ _ _ _ w3.drew
      clear hand
      go_wp2_with fail
      go_roundw
      case rel => exact ⟨k, wv' % 2 ^ k, acc' ++ [letter (wv' / 2 ^ k)], by rw [HR.out, runBits, dif_pos (by omega)]; simp, by simpa using HG4.out.drew, by simpa using HO4.out.drew, by omega, HMOD.out, by simp; omega⟩
      case measure =>
        have h1 := HD4.out
        have h2 := C2.out
        simp at h1
        simp [h1, h2, intOf]
        omega
    · have HG1 := hide hg
      have HO1 := hide ho
      clear hg ho
      go_wp2_with fail
      go_ret
      exact ⟨h', wv', acc', by rw [HR.out, runBits, dif_neg (by omega)], rfl, HG1.out, HO1.out⟩
end Go.Proofs.YtcmmbceacjechaaGreatDoor
