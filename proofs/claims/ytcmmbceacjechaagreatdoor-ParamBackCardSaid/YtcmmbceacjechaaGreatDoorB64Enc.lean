/- WALKS of b64.gather and b64.Encode. No statement is proved here. -/
import Derived.Test.YtcmmbceacjechaaGreatDoorB64Gat
namespace Go.Proofs.YtcmmbceacjechaaGreatDoor
open Go.RowKit
set_option linter.unusedVariables false
set_option maxRecDepth 100000
set_option linter.unusedSimpArgs false

theorem makeFunc_run (fn : Fn) (first cap : Array Value) (w : World) : (Instr.makeFunc fn first cap).run Tryz.prog w = .ok (.func fn first cap) w := rfl

set_option maxHeartbeats 1000000 in
theorem gather_any (size : Nat) (hf : FuncId) (B bo : Nat) (acc : List UInt8) (W0 w : World) (ho : Out B bo acc W0 w) :
    Calls Tryz.prog 199 #[.int .i64 size, .func (.func hf) #[] #[.pointer (some ⟨bo, 0, none⟩)]] w fun e w' =>
      e = .returned (.func (.func 224) #[] #[.pointer (some ⟨w.heap.size + 2, 0, none⟩), .pointer (some ⟨w.heap.size + 3, 0, none⟩), .pointer (some ⟨w.heap.size, 0, none⟩), .pointer (some ⟨w.heap.size + 1, 0, none⟩)]) ∧
      Gat size hf B (w.heap.size + 2) (w.heap.size + 3) w.heap.size (w.heap.size + 1) bo 0 0 w' ∧ Out B bo acc W0 w' := by
  have hmf := makeFunc_run
  have hB : B ≤ w.heap.size := by obtain ⟨v, _, h, _⟩ := ho; exact h.2.2
  have hbo : bo < w.heap.size := by obtain ⟨v, h, _⟩ := ho; exact h.lt
  go_enter Tryz.func199, Tryz.ntmps199
  go_wp2_with fail
  go_ret
  refine ⟨rfl, ⟨?_, ?_, ?_, ?_, by omega, by omega, by omega, by omega, by omega, by omega, by omega⟩, (((ho.alloc _).alloc _).alloc _).alloc _⟩
  · have h := Box.new ((w.alloc (Obj.cells #[Value.int IntKind.i64 ↑size] 3)).alloc (Obj.cells #[Value.func (Fn.func hf) #[] #[Value.pointer (some ⟨bo, 0, none⟩)]] 166)) 145 (.int .u64 0)
    rw [show ((w.alloc (Obj.cells #[Value.int IntKind.i64 ↑size] 3)).alloc (Obj.cells #[Value.func (Fn.func hf) #[] #[Value.pointer (some ⟨bo, 0, none⟩)]] 166)).heap.size = w.heap.size + 2 by simp] at h
    exact h.alloc _
  · have h := Box.new (((w.alloc (Obj.cells #[Value.int IntKind.i64 ↑size] 3)).alloc (Obj.cells #[Value.func (Fn.func hf) #[] #[Value.pointer (some ⟨bo, 0, none⟩)]] 166)).alloc (Obj.cells #[Value.int IntKind.u64 0] 145)) 3 (.int .i64 0)
    rw [show (((w.alloc (Obj.cells #[Value.int IntKind.i64 ↑size] 3)).alloc (Obj.cells #[Value.func (Fn.func hf) #[] #[Value.pointer (some ⟨bo, 0, none⟩)]] 166)).alloc (Obj.cells #[Value.int IntKind.u64 0] 145)).heap.size = w.heap.size + 3 by simp] at h
    exact h
  · exact (((Box.new w 3 (.int .i64 size)).alloc _).alloc _).alloc _
  · have h := Box.new (w.alloc (Obj.cells #[Value.int IntKind.i64 ↑size] 3)) 166 (Value.func (Fn.func hf) #[] #[Value.pointer (some ⟨bo, 0, none⟩)])
    rw [show (w.alloc (Obj.cells #[Value.int IntKind.i64 ↑size] 3)).heap.size = w.heap.size + 1 by simp] at h
    exact (h.alloc _).alloc _

theorem gather_ex (size : Nat) (hf : FuncId) (B bo : Nat) (acc : List UInt8) (W0 w : World) (ho : Out B bo acc W0 w) :
    Calls Tryz.prog 199 #[.int .i64 size, .func (.func hf) #[] #[.pointer (some ⟨bo, 0, none⟩)]] w fun e w' => ∃ bw bh bs bd : Nat,
      e = .returned (.func (.func 224) #[] #[.pointer (some ⟨bw, 0, none⟩), .pointer (some ⟨bh, 0, none⟩), .pointer (some ⟨bs, 0, none⟩), .pointer (some ⟨bd, 0, none⟩)]) ∧
      Gat size hf B bw bh bs bd bo 0 0 w' ∧ Out B bo acc W0 w' :=
  (gather_any size hf B bo acc W0 w ho).mono fun _ _ h => ⟨_, _, _, _, h⟩

/-! ### what one byte brings, three times in turn -/
theorem run_stop (size : Nat) (f : Nat → UInt8) (h wv : Nat) (acc : List UInt8) (hs : h < size) : runBits size f h wv acc = (h, wv, acc) := by
  rw [runBits, dif_neg (by omega)]
theorem run_go (size : Nat) (f : Nat → UInt8) (k wv : Nat) (acc : List UInt8) (hs : 0 < size) : runBits size f (k + size) wv acc = runBits size f k (wv % 2 ^ k) (acc ++ [f (wv / 2 ^ k)]) := by
  rw [runBits, dif_pos (by omega), Nat.add_sub_cancel]
theorem enc0 (c : Nat) (acc : List UInt8) : runBits 6 letter (0 + 8) (0 * 2 ^ 8 + c) acc = (2, c % 4, acc ++ [letter (c / 4)]) := by
  rw [show 0 + 8 = 2 + 6 from rfl, run_go 6 letter 2 _ _ (by omega), run_stop _ _ _ _ _ (by omega)]
  simp
theorem enc2 (w c : Nat) (acc : List UInt8) : runBits 6 letter (2 + 8) (w * 2 ^ 8 + c) acc = (4, c % 16, acc ++ [letter (w * 16 + c / 16)]) := by
  rw [show 2 + 8 = 4 + 6 from rfl, run_go 6 letter 4 _ _ (by omega), run_stop _ _ _ _ _ (by omega)]
  have e1 : (w * 2 ^ 8 + c) % 2 ^ 4 = c % 16 := by omega
  have e2 : (w * 2 ^ 8 + c) / 2 ^ 4 = w * 16 + c / 16 := by omega
  rw [e1, e2]
theorem enc4 (w c : Nat) (acc : List UInt8) : runBits 6 letter (4 + 8) (w * 2 ^ 8 + c) acc = (0, 0, acc ++ [letter (w * 4 + c / 64), letter (c % 64)]) := by
  rw [show 4 + 8 = 6 + 6 from rfl, run_go 6 letter 6 _ _ (by omega), show runBits 6 letter 6 = runBits 6 letter (0 + 6) from rfl, run_go 6 letter 0 _ _ (by omega), run_stop _ _ _ _ _ (by omega)]
  have e1 : (w * 2 ^ 8 + c) % 2 ^ 6 = c % 64 := by omega
  have e2 : (w * 2 ^ 8 + c) / 2 ^ 6 = w * 4 + c / 64 := by omega
  rw [e1, e2]
  simp
  omega
theorem encEnd2 (w : Nat) (acc : List UInt8) : runBits 6 letter (2 + 4) (w * 2 ^ 4 + 0) acc = (0, 0, acc ++ [letter (w * 16)]) := by
  rw [show 2 + 4 = 0 + 6 from rfl, run_go 6 letter 0 _ _ (by omega), run_stop _ _ _ _ _ (by omega)]
  simp
  omega
theorem encEnd4 (w : Nat) (acc : List UInt8) : runBits 6 letter (4 + 2) (w * 2 ^ 2 + 0) acc = (0, 0, acc ++ [letter (w * 4)]) := by
  rw [show 4 + 2 = 0 + 6 from rfl, run_go 6 letter 0 _ _ (by omega), run_stop _ _ _ _ _ (by omega)]
  simp
  omega

/-- how many signs of the end fill up -/
def pads (n : Nat) : Nat := (4 - n % 4) % 4
/-- how long the slice in a box is -/
def lenAt (w : World) (b : Nat) : Nat := match w.cell? ⟨b, 0, none⟩ with
  | some (.slice _ n _) => n
  | _ => 0
theorem lenAt_box {w : World} {b n c : Nat} {A : Option Addr} (h : Box w b 67 (.slice A n c)) : lenAt w b = n := by unfold lenAt; rw [h.cell]

/-- the state of Encode: how many bits wait, what they are, how long the letters are -/
def EncSt (h wv : Nat) (acc : List UInt8) : Prop := (h = 0 ∧ wv = 0 ∧ acc.length % 4 = 0) ∨ (h = 2 ∧ wv < 4 ∧ acc.length % 4 = 1) ∨ (h = 4 ∧ wv < 16 ∧ acc.length % 4 = 2)
theorem EncSt.lt {h wv : Nat} {acc : List UInt8} (s : EncSt h wv acc) : wv < 2 ^ h ∧ h ≤ 4 := by
  rcases s with ⟨rfl, rfl, _⟩ | ⟨rfl, h1, _⟩ | ⟨rfl, h1, _⟩
  · exact ⟨by decide, by omega⟩
  · exact ⟨h1, by omega⟩
  · exact ⟨h1, by omega⟩
theorem EncSt.step {h wv h' wv' : Nat} {acc acc' r R : List UInt8} {c : UInt8} (s : EncSt h wv acc) (hr : runBits 6 letter (h + 8) (wv * 2 ^ 8 + c.toNat) acc = (h', wv', acc')) (hR : acc ++ encFrom h wv (c :: r) = R) :
    EncSt h' wv' acc' ∧ acc' ++ encFrom h' wv' r = R ∧ acc'.length ≤ acc.length + 2 := by
  have hc := byte_lt c
  rcases s with ⟨rfl, rfl, hl⟩ | ⟨rfl, hw, hl⟩ | ⟨rfl, hw, hl⟩
  · rw [enc0] at hr
    injection hr with h1 hr; injection hr with h2 h3
    subst h1; subst h2; subst h3; subst hR
    exact ⟨.inr (.inl ⟨rfl, by omega, by simp; omega⟩), by simp [encFrom], by simp⟩
  · rw [enc2] at hr
    injection hr with h1 hr; injection hr with h2 h3
    subst h1; subst h2; subst h3; subst hR
    exact ⟨.inr (.inr ⟨rfl, by omega, by simp; omega⟩), by simp [encFrom], by simp⟩
  · rw [enc4] at hr
    injection hr with h1 hr; injection hr with h2 h3
    subst h1; subst h2; subst h3; subst hR
    exact ⟨.inl ⟨rfl, rfl, by simp; omega⟩, by simp [encFrom], by simp⟩

set_option maxHeartbeats 2000000 in
theorem encode64_any (s : ByteArray) (w : World) (hs : s.size ≤ 100000) :
    Calls Tryz.prog 156 #[.string s] w fun e w' => e = .returned (.string (str (encB s.data.toList))) ∧ Below w.heap.size w w' := by
  have hmf := makeFunc_run
  have hc8 : (0 : Int) ≤ s.size := by omega
  go_enter Tryz.func156, Tryz.ntmps156
  go_wp2_with (refine wpList_buf_make rfl _ _ rfl w.heap.size w (Below.refl _ _) (Nat.le_refl _) ((s.size + 2) / 3 * 4) (((s.size : Int) + 2) / 3 * 4) rfl rfl (by omega) (by omega) ?_; intro v0 w0 hb0; obtain ⟨A0, c0, rfl⟩ := hb0.slice_len; have HB0 := hide hb0; clear hb0)
  have ho0 : Out w.heap.size w0.heap.size [] w (w0.alloc (Obj.cells #[Value.slice A0 0 c0] 67)) := ⟨_, Box.new w0 _ _, HB0.out.alloc _, HB0.out.2.2⟩
  refine (gather_ex 6 200 w.heap.size w0.heap.size [] w _ ho0).mono ?_
  rintro e w1 ⟨bw, bh, bs, bd, rfl, hg, ho⟩
  clear ho0
  have HG := hide hg
  have HO := hide ho
  clear hg ho
  generalize w0.heap.size = bo at *
  go_wp2_with fail
  go_loopw [5, 17] (fun n i wr => ∃ (k h wv : Nat) (acc : List UInt8), k ≤ s.size ∧ i = .int .i64 k ∧ n = .int .i64 h ∧ Gat 6 200 w.heap.size bw bh bs bd bo h wv wr ∧ Out w.heap.size bo acc w wr ∧ EncSt h wv acc ∧ acc ++ encFrom h wv (s.data.toList.drop k) = encB s.data.toList ∧ acc.length ≤ 2 * k) (fun _ i _ => s.size - (intOf i).toNat)
  case atStart => exact ⟨0, 0, 0, [], Nat.zero_le _, rfl, rfl, HG.out, HO.out, .inl ⟨rfl, rfl, rfl⟩, by simp [encB], Nat.le_refl _⟩
  case round =>
    obtain ⟨k, h, wv, acc, hk, rfl, rfl, hg, ho, hst, hR, hl⟩ := hrel
    have HG1 := hide hg
    have HO1 := hide ho
    have HS := hide hst
    have HR := hide hR
    clear hg ho hst hR
    by_cases hlt : k < s.size
    · have HD := hide (drop_cons s k hlt)
      obtain ⟨c, hc⟩ : ∃ c, c = s[k] := ⟨_, rfl⟩
      have HC := hide hc
      have hcb := byte_lt s[k]
      clear hc
      go_wp2_with fail
      refine (gatEnc w.heap.size bw bh bs bd bo 8 h wv s[k].toNat acc w _ (by have := HS.out.lt.2; omega) HS.out.lt.1 hcb HG1.out HO1.out (by omega)).mono ?_
      rintro e w2 ⟨h', wv', acc', hr, rfl, hg2, ho2⟩
      have hstep := EncSt.step (r := s.data.toList.drop (k + 1)) (R := encB s.data.toList) HS.out hr (by rw [← HD.out]; exact HR.out)
      obtain ⟨s1, s2, s3⟩ := hstep
      have HG2 := hide hg2
      have HO2 := hide ho2
      have HS1 := hide s1
      have HS2 := hide s2
      clear hr hg2 ho2 s1 s2
      go_wp2_with fail
      go_roundw
      case rel => exact ⟨k + 1, h', wv', acc', by omega, by go_num, rfl, HG2.out, HO2.out, HS1.out, HS2.out, by omega⟩
      case measure => simp [intOf]; omega
    · have hend : ∃ h2 : s.data.toList.drop k = [], True := ⟨drop_nil s k (by omega), trivial⟩
      obtain ⟨hdn, -⟩ := hend
      have hR := HR.out
      rw [hdn] at hR
      have HR2 := hide hR
      clear hdn hR
      rcases HS.out with ⟨rfl, rfl, h3⟩ | ⟨rfl, h2, h3⟩ | ⟨rfl, h2, h3⟩
      all_goals first
        | (have g0 : acc.length % 4 = 0 := h3
           rw [show (((0 : Nat)) : Int) = 0 from rfl]
           have hfin : acc ++ List.replicate (pads acc.length) 61 = encB s.data.toList := by
             have := HR2.out
             rw [show encFrom 0 0 [] = [] from rfl] at this
             rw [← this, pads, h3]
             rfl
           have HF := hide hfin
           have HO4 := HO1
           have hl4 : acc.length ≤ 500000 := by omega
           obtain ⟨l4, hl5⟩ : ∃ l, l = acc := ⟨_, rfl⟩
           rw [← hl5] at HF HO4 hl4
           clear hfin hl5
           go_wp2_with fail)
        | (have g0 : acc.length % 4 = 1 := h3
           rw [show (((2 : Nat)) : Int) = 2 from rfl]
           go_wp2_with fail
           refine (gatEnc w.heap.size bw bh bs bd bo 4 2 wv 0 acc w _ (by omega) h2 (by decide) HG1.out HO1.out (by omega)).mono ?_
           rintro e w2 ⟨h', wv', acc', hr, rfl, hg2, ho2⟩
           rw [encEnd2] at hr
           injection hr with e1 hr
           injection hr with e2 e3
           have hfin : acc' ++ List.replicate (pads acc'.length) 61 = encB s.data.toList := by
             have := HR2.out
             rw [show encFrom 2 wv [] = [letter (wv * 16), 61, 61] from rfl] at this
             have hlen : acc'.length = acc.length + 1 := by rw [← e3]; simp
             have hp : pads acc'.length = 2 := by rw [hlen, pads]; omega
             rw [hp, ← this, ← e3]; simp [List.replicate_succ]
           have HF : Hid (acc' ++ List.replicate (pads acc'.length) 61 = encB s.data.toList) := hfin
           have HO4 : Hid (Out w.heap.size bo acc' w w2) := ho2
           have hl4 : acc'.length ≤ 500000 := by rw [← e3]; simp; omega
           obtain ⟨l4, hl5⟩ : ∃ l, l = acc' := ⟨_, rfl⟩
           rw [← hl5] at HF HO4 hl4
           clear hfin e1 e2 e3 ho2 hg2 hl5
           go_wp2_with fail)
        | (have g0 : acc.length % 4 = 2 := h3
           rw [show (((4 : Nat)) : Int) = 4 from rfl]
           go_wp2_with fail
           refine (gatEnc w.heap.size bw bh bs bd bo 2 4 wv 0 acc w _ (by omega) h2 (by decide) HG1.out HO1.out (by omega)).mono ?_
           rintro e w2 ⟨h', wv', acc', hr, rfl, hg2, ho2⟩
           rw [encEnd4] at hr
           injection hr with e1 hr
           injection hr with e2 e3
           have hfin : acc' ++ List.replicate (pads acc'.length) 61 = encB s.data.toList := by
             have := HR2.out
             rw [show encFrom 4 wv [] = [letter (wv * 4), 61] from rfl] at this
             have hlen : acc'.length = acc.length + 1 := by rw [← e3]; simp
             have hp : pads acc'.length = 1 := by rw [hlen, pads]; omega
             rw [hp, ← this, ← e3]; simp [List.replicate_succ]
           have HF : Hid (acc' ++ List.replicate (pads acc'.length) 61 = encB s.data.toList) := hfin
           have HO4 : Hid (Out w.heap.size bo acc' w w2) := ho2
           have hl4 : acc'.length ≤ 500000 := by rw [← e3]; simp; omega
           obtain ⟨l4, hl5⟩ : ∃ l, l = acc' := ⟨_, rfl⟩
           rw [← hl5] at HF HO4 hl4
           clear hfin e1 e2 e3 ho2 hg2 hl5
           go_wp2_with fail)
      all_goals
        go_loopw [37] (fun _ wr => ∃ l : List UInt8, Out w.heap.size bo l w wr ∧ l ++ List.replicate (pads l.length) 61 = encB s.data.toList ∧ l.length ≤ l4.length + 4 - pads l.length) (fun _ wr => pads (lenAt wr bo))
        case atStart => exact ⟨l4, HO4.out, HF.out, (by unfold pads; omega)⟩
        case round =>
          obtain ⟨l, ⟨v, hbx, hbf, hB⟩, hfin, hll⟩ := hrel
          obtain ⟨A, cc, rfl⟩ := hbf.slice_len
          have HBX := hide hbx
          have HBF := hide hbf
          have HFI := hide hfin
          have c1 := hbx.cell
          have f1 := hbx.free
          have hla := lenAt_box hbx
          have HLA := hide hla
          clear hbx hbf hfin hla
          by_cases h0 : l.length % 4 = 0
          · have t : (((l.length : Int) % 4) != 0) = false := by simp; omega
            have H0 := hide h0
            have hcv := HBF.out.convert
            clear h0
            go_wp2_with fail
            go_ret
            refine ⟨ret_str ?_, HBF.out.below⟩
            have := HFI.out
            rw [show pads l.length = 0 by unfold pads; rw [H0.out]] at this
            simp at this
            rw [this]
          · have t : (((l.length : Int) % 4) != 0) = true := by simp; omega
            have H0 := hide h0
            clear h0
            go_wp2_with (refine wpList_buf_const rfl _ _ rfl w.heap.size (.slice A l.length cc) l rfl w _ 61 61 rfl HBF.out rfl (by omega) ?_; intro v2 w2 hb2 hk2; obtain ⟨A2, c2, rfl⟩ := hb2.slice_len; have hx2 := hk2 _ _ _ (by decide) HBX.out; have d2 := hx2.cell; have g2 := hx2.free; have HB2 := hide hb2; have HX2 := hide hx2; clear hb2 hx2 hk2)
            go_roundw
            case rel => 
              have hp : pads l.length = pads (l.length + 1) + 1 := by have := H0.out; unfold pads; omega
              have hp3 : pads (l.length + 1) ≤ 3 := by unfold pads; omega
              have hB2 := HB2.out
              rw [show (l ++ [(61 : UInt8)]).length = l.length + 1 by simp] at hB2
              refine ⟨l ++ [61], ⟨_, HX2.out.set _, hB2.setBox HX2.out (by decide) hB _, hB⟩, ?_, ?_⟩
              · rw [← HFI.out, List.length_append, hp, List.replicate_succ]; simp
              · simp; omega
            case measure =>
              have hp : pads l.length = pads (l.length + 1) + 1 := by have := H0.out; unfold pads; omega
              have e1 := HLA.out
              have e2 := lenAt_box (HX2.out.set (.slice A2 (l ++ [61]).length c2))
              simp at e2 ⊢
              rw [e1, e2]
              omega
end Go.Proofs.YtcmmbceacjechaaGreatDoor
