/- WALK of param.continued. No statement is proved here. -/
import Derived.Test.YtcmmbceacjechaaGreatDoorParE
namespace Go.Proofs.YtcmmbceacjechaaGreatDoor
open Go.RowKit
set_option linter.unusedVariables false
set_option linter.unusedSimpArgs false
set_option maxRecDepth 100000
/-- a section read: the alphabet behind it, its bytes -/
def coStep (lab x : List UInt8) (st : Bool) (n : Nat) : List UInt8 × List UInt8 :=
  if st = true then (if n = 0 then (match pExt x with | some p => p | none => (lab, pdec x)) else (lab, pdec x)) else (lab, x)
/-- the alphabet and the bytes of n sections -/
def coAt (f : ValF) (name : List UInt8) : Nat → List UInt8 × List UInt8
  | 0 => ([117, 116, 102, 45, 56], [])
  | n + 1 => match secL f name n with
    | some (x, st) => ((coStep (coAt f name n).1 x st n).1, (coAt f name n).2 ++ (coStep (coAt f name n).1 x st n).2)
    | none => coAt f name n
theorem coAt_succ {f : ValF} {name : List UInt8} {n : Nat} {x : List UInt8} {st : Bool} (h : secL f name n = some (x, st)) : coAt f name (n + 1) = ((coStep (coAt f name n).1 x st n).1, (coAt f name n).2 ++ (coStep (coAt f name n).1 x st n).2) := by
  rw [coAt, h]
/-- a value that is written in N sections -/
def coV (f : ValF) (name : List UInt8) (N : Nat) : List UInt8 × Bool := (decodeL (kindL (coAt f name N).1) (coAt f name N).2, decide (0 < N))
set_option maxHeartbeats 8000000 in
theorem continued_any (ns : Value) (bm c : Nat) (f : ValF) (name : ByteArray) (w : World) (hM : TMap w bm c f) (hE : EnvP w) (hz : name.size ≤ 1048576) (hf : ∀ k x, f k = some x → x.length ≤ 1048576) (A : Option Addr) (l cp : Nat) (hns : ns = .slice A l cp)
    (N : Nat) (hN : N ≤ 1000000) (hno : secL f name.data.toList N = none) (hyes : ∀ n, n < N → secL f name.data.toList n ≠ none) (hsz : ∀ n, n ≤ N → (coAt f name.data.toList n).1.length ≤ 1048576 ∧ (coAt f name.data.toList n).2.length ≤ 1048576) :
    Calls Tryz.prog 137 #[.agg #[ns, .map (some bm)], .string name] w fun e w' => e = .returned (.tuple #[.string (str (coV f name.data.toList N).1), .bool (coV f name.data.toList N).2]) ∧ Below w.heap.size w w' := by
  subst hns
  obtain ⟨W, hW⟩ : ∃ W, W = w.alloc (.cells #[.slice A l cp, .map (some bm)] 60) := ⟨_, rfl⟩
  have hWz : W.heap.size = w.heap.size + 1 := by rw [hW]; exact World.size_alloc ..
  have hWb : Below w.heap.size w W := by rw [hW]; exact (Below.refl _ w).alloc (Nat.le_refl _) _
  have HMW := hide (hM.kept hWb)
  have HEW := hide (hE.kept hWb)
  have d0 : W.cell? ⟨w.heap.size, 0, none⟩ = some (.slice A l cp) := by rw [hW, World.cell?_alloc_at _ _ _ _ rfl]; rfl
  have d1 : W.cell? ⟨w.heap.size, 1, none⟩ = some (.map (some bm)) := by rw [hW, World.cell?_alloc_at _ _ _ _ rfl]; rfl
  have HB0 : Hid (Bld (w.heap.size + 1) (w.heap.size + 1) [] W (W.alloc (.cells #[.pointer none, .slice none 0 0] 69))) := hide (by
    have := Bld.new (B := W.heap.size) (Below.refl W.heap.size W) (Nat.le_refl _)
    rw [hWz] at this; exact this)
  have HSZ := hide hsz
  have HYES := hide hyes
  have HNO := hide hno
  have HF := hide hf
  have HWB := hide hWb
  have HWZ := hide hWz
  have HD0 := hide (And.intro d0 d1)
  clear hM hE hsz hyes hno hf hWb hWz d0 d1
  go_enter Tryz.func137, Tryz.ntmps137
  go_wp2_with fail
  rw [← hW]
  have HW := hide hW
  clear hW
  go_loopw [6, 8] (fun lv nv wr => ∃ n : Nat, n ≤ N ∧ nv = .int .i64 n ∧ lv = .string (str (coAt f name.data.toList n).1) ∧ Hid (Bld (w.heap.size + 1) (w.heap.size + 1) (coAt f name.data.toList n).2 W wr)) (fun _ nv _ => N + 1 - (intOf nv).toNat)
  case atStart => exact ⟨0, Nat.zero_le _, rfl, rfl, HB0⟩
  case round =>
    obtain ⟨n, hn, rfl, rfl, HB⟩ := hrel
    have hBw : Below W.heap.size W wr := by rw [HWZ.out]; exact HB.out.2.1
    have c0 := (hBw.cell (p := ⟨w.heap.size, 0, none⟩) (by rw [HWZ.out]; exact Nat.lt_succ_self _)).trans HD0.out.1
    have c1 := (hBw.cell (p := ⟨w.heap.size, 1, none⟩) (by rw [HWZ.out]; exact Nat.lt_succ_self _)).trans HD0.out.2
    have HBW := hide (HMW.out.kept hBw)
    have HEQ := hide (HEW.out.kept hBw)
    have HSEC := hide (fun (w : World) (h1 : TMap w bm c f) (h2 : EnvP w) => section_any (.slice A l cp) bm c n f name w h1 h2 (by omega) hz A l cp rfl)
    have hsz := HSZ.out n hn
    cases hs : secL f name.data.toList n with
    | none =>
      have hNn : n = N := by
        rcases Nat.lt_or_ge n N with h | h
        · exact absurd hs (HYES.out n h)
        · omega
      rw [hs] at HSEC
      simp only [secV] at HSEC
      obtain ⟨P, hP⟩ : ∃ P, P = str (coAt f name.data.toList n).1 := ⟨_, rfl⟩
      obtain ⟨Q, hQ⟩ : ∃ Q, Q = str (coAt f name.data.toList n).2 := ⟨_, rfl⟩
      obtain ⟨R, hR⟩ : ∃ R, R = str (coV f name.data.toList N).1 := ⟨_, rfl⟩
      have HD := hide (fun (w : World) (hT : Tab w) => charsDecode_any P Q w (by rw [hP, str_size]; omega) (by rw [hQ, str_size]; omega) hT)
      have eP : P.data.toList = (coAt f name.data.toList n).1 := by rw [hP, str_toList]
      have eQ : Q.data.toList = (coAt f name.data.toList n).2 := by rw [hQ, str_toList]
      rw [eP, eQ] at HD
      simp only [decV] at HD
      rw [show str (decodeL (kindL (coAt f name.data.toList n).1) (coAt f name.data.toList n).2) = R by rw [hR, ← hNn]; rfl] at HD
      rw [← hP]
      have HQ := hide hQ
      have HV : Hid (str (coV f name.data.toList N).1 = R) := hide hR.symm
      have HV2 : Hid ((coV f name.data.toList N).2 = decide (0 < n)) := hide (by rw [hNn]; rfl)
      have t1 : decide ((0 : Int) < (n : Int)) = decide (0 < n) := by congr 1; exact propext (by omega)
      clear hs hNn hP hQ hR eP eQ hsz
      go_wp2_with (first
        | (go_at_call 187; refine (HSEC.out _ HBW.out HEQ.out).mono ?_; rintro e w1 ⟨rfl, hb1⟩; have HB1 := hide (HB.out.kept hb1); clear hb1)
        | (go_at_call 64; refine (HB1.out.string).mono ?_; rw [← HQ.out]; rintro e w3 ⟨rfl, hb3⟩; have HB3 := hide hb3; have hBw3 : Below W.heap.size W w3 := (by rw [HWZ.out]; exact hb3); have HE3 := hide (HEW.out.kept hBw3); clear hb3)
        | (go_at_call 186; refine (HD.out _ HE3.out.1).mono ?_; rintro e w4 ⟨rfl, hb4⟩; have HB4 := hide (hBw3.trans (hb4.mono hBw3.size)); clear hb4))
      go_ret2
      exact ⟨by rw [HV.out, HV2.out]; first | rfl | (rw [← t1]; rfl), HWB.out.trans (HB4.out.mono HWB.out.size)⟩
    | some p =>
      obtain ⟨x, st⟩ := p
      have hlt : n < N := by
        rcases Nat.lt_or_ge n N with h | h
        · exact h
        · have : n = N := by omega
          rw [this, HNO.out] at hs; cases hs
      rw [hs] at HSEC
      simp only [secV] at HSEC
      have hx : x.length ≤ 1048576 := by
        unfold secL at hs
        split at hs
        · rename_i y hy
          injection hs with hs; injection hs with hs _; subst hs; exact HF.out _ _ hy
        · split at hs
          · rename_i y hy
            injection hs with hs; injection hs with hs _; subst hs; exact HF.out _ _ hy
          · cases hs
      obtain ⟨X, hX⟩ : ∃ X, X = str x := ⟨_, rfl⟩
      rw [← hX] at HSEC
      have hXl : X.data.toList = x := by rw [hX, str_toList]
      have hXz : X.size ≤ 1048576 := by rw [hX, str_size]; exact hx
      have HXT := hide (fun (w : World) => extended_any X w (by omega))
      rw [hXl] at HXT
      have hnx := coAt_succ hs
      have HNN := hide hlt
      have k1 : (n : Int) + 1 ≤ N := by omega
      cases st with
      | false =>
        have HLAB : Hid (Value.string (str (coAt f name.data.toList n).1) = .string (str (coAt f name.data.toList (n + 1)).1)) := hide (by rw [hnx]; rfl)
        have HNX : Hid ((coAt f name.data.toList (n + 1)).2 = (coAt f name.data.toList n).2 ++ X.data.toList) := hide (by rw [hnx, hXl]; rfl)
        have HLN : Hid ((coAt f name.data.toList n).2.length + X.size ≤ 140737488355328) := hide (by omega)
        rcases hpx : pExt x with _ | ⟨a, b⟩
        all_goals
          rw [hpx] at HXT
          simp only [extV] at HXT
          clear hs hX hXl hx hnx hlt hsz
          go_wp2_with (first
            | (go_at_call 187; refine (HSEC.out _ HBW.out HEQ.out).mono ?_; rintro e w1 ⟨rfl, hb1⟩; have HB1 := hide (HB.out.kept hb1); clear hb1)
            | (go_at_call 185; refine (HXT.out _).mono ?_; rintro e w2 ⟨rfl, hb2⟩; have HB2 := hide (HB1.out.kept hb2); clear hb2)
            | (go_at_call 60; refine (writeString_any _ _ _ X W _ HB2.out HLN.out).mono ?_; rintro e w4 ⟨rfl, hb4⟩; have HB4 := hide hb4; clear hb4))
          go_roundw
          case rel => exact ⟨n + 1, by have := HNN.out; omega, by go_num, HLAB.out, hide (by rw [HNX.out]; exact HB4.out)⟩
          case measure => simp [intOf]; have := HNN.out; omega
      | true =>
        have HPD := hide (fun (w : World) => decode_any X w (by omega))
        rw [hXl] at HPD
        obtain ⟨Y, hY⟩ : ∃ Y, Y = str (pdec x) := ⟨_, rfl⟩
        rw [← hY] at HPD
        have hYz : Y.size ≤ 1048576 := by rw [hY, str_size]; have := (pdec_length x).1; omega
        have hYl : Y.data.toList = pdec x := by rw [hY, str_toList]
        by_cases h0 : n = 0
        · have n0 : ((n : Int) == 0) = true := beq_iff_eq.2 (by omega)
          cases hpx : pExt x with
          | none =>
            rw [hpx] at HXT
            simp only [extV] at HXT
            have HLAB : Hid (Value.string (str (coAt f name.data.toList n).1) = .string (str (coAt f name.data.toList (n + 1)).1)) := hide (by rw [hnx]; unfold coStep; rw [if_pos rfl, if_pos h0, hpx])
            have HNX : Hid ((coAt f name.data.toList (n + 1)).2 = (coAt f name.data.toList n).2 ++ Y.data.toList) := hide (by rw [hnx, hYl]; unfold coStep; rw [if_pos rfl, if_pos h0, hpx])
            have HLN : Hid ((coAt f name.data.toList n).2.length + Y.size ≤ 140737488355328) := hide (by omega)
            clear hs hX hXl hx hnx hlt hsz hpx h0 hY hYl
            go_wp2_with (first
              | (go_at_call 187; refine (HSEC.out _ HBW.out HEQ.out).mono ?_; rintro e w1 ⟨rfl, hb1⟩; have HB1 := hide (HB.out.kept hb1); clear hb1)
              | (go_at_call 185; refine (HXT.out _).mono ?_; rintro e w2 ⟨rfl, hb2⟩; have HB2 := hide (HB1.out.kept hb2); clear hb2)
              | (go_at_call 188; refine (HPD.out _).mono ?_; rintro e w3 ⟨rfl, hb3⟩; have HB3 := hide (HB2.out.kept hb3); clear hb3)
              | (go_at_call 60; refine (writeString_any _ _ _ Y W _ HB3.out HLN.out).mono ?_; rintro e w4 ⟨rfl, hb4⟩; have HB4 := hide hb4; clear hb4))
            go_roundw
            case rel => exact ⟨n + 1, by have := HNN.out; omega, by go_num, HLAB.out, hide (by rw [HNX.out]; exact HB4.out)⟩
            case measure => simp [intOf]; have := HNN.out; omega
          | some p =>
            obtain ⟨a, b⟩ := p
            rw [hpx] at HXT
            simp only [extV] at HXT
            have hps := pExt_sizes hpx
            obtain ⟨Z, hZ⟩ : ∃ Z, Z = str b := ⟨_, rfl⟩
            obtain ⟨L, hL⟩ : ∃ L, L = str a := ⟨_, rfl⟩
            rw [← hZ, ← hL] at HXT
            have HLAB : Hid (Value.string L = .string (str (coAt f name.data.toList (n + 1)).1)) := hide (by rw [hnx, hL]; unfold coStep; rw [if_pos rfl, if_pos h0, hpx])
            have HNX : Hid ((coAt f name.data.toList (n + 1)).2 = (coAt f name.data.toList n).2 ++ Z.data.toList) := hide (by rw [hnx, hZ, str_toList]; unfold coStep; rw [if_pos rfl, if_pos h0, hpx])
            have HLN : Hid ((coAt f name.data.toList n).2.length + Z.size ≤ 140737488355328) := hide (by rw [hZ, str_size]; omega)
            clear hs hX hXl hx hnx hlt hsz hpx h0 hY hYl hZ hL hps
            go_wp2_with (first
              | (go_at_call 187; refine (HSEC.out _ HBW.out HEQ.out).mono ?_; rintro e w1 ⟨rfl, hb1⟩; have HB1 := hide (HB.out.kept hb1); clear hb1)
              | (go_at_call 185; refine (HXT.out _).mono ?_; rintro e w2 ⟨rfl, hb2⟩; have HB2 := hide (HB1.out.kept hb2); clear hb2)
              | (go_at_call 60; refine (writeString_any _ _ _ Z W _ HB2.out HLN.out).mono ?_; rintro e w4 ⟨rfl, hb4⟩; have HB4 := hide hb4; clear hb4))
            go_roundw
            case rel => exact ⟨n + 1, by have := HNN.out; omega, by go_num, HLAB.out, hide (by rw [HNX.out]; exact HB4.out)⟩
            case measure => simp [intOf]; have := HNN.out; omega
        · have n0 : ((n : Int) == 0) = false := beq_eq_false_iff_ne.2 (by omega)
          have HLAB : Hid (Value.string (str (coAt f name.data.toList n).1) = .string (str (coAt f name.data.toList (n + 1)).1)) := hide (by rw [hnx]; unfold coStep; rw [if_pos rfl, if_neg h0])
          have HNX : Hid ((coAt f name.data.toList (n + 1)).2 = (coAt f name.data.toList n).2 ++ Y.data.toList) := hide (by rw [hnx, hYl]; unfold coStep; rw [if_pos rfl, if_neg h0])
          have HLN : Hid ((coAt f name.data.toList n).2.length + Y.size ≤ 140737488355328) := hide (by omega)
          rcases hpx : pExt x with _ | ⟨a, b⟩
          all_goals
            rw [hpx] at HXT
            simp only [extV] at HXT
            clear hs hX hXl hx hnx hlt hsz h0 hY hYl
            go_wp2_with (first
              | (go_at_call 187; refine (HSEC.out _ HBW.out HEQ.out).mono ?_; rintro e w1 ⟨rfl, hb1⟩; have HB1 := hide (HB.out.kept hb1); clear hb1)
              | (go_at_call 185; refine (HXT.out _).mono ?_; rintro e w2 ⟨rfl, hb2⟩; have HB2 := hide (HB1.out.kept hb2); clear hb2)
              | (go_at_call 188; refine (HPD.out _).mono ?_; rintro e w3 ⟨rfl, hb3⟩; have HB3 := hide (HB2.out.kept hb3); clear hb3)
              | (go_at_call 60; refine (writeString_any _ _ _ Y W _ HB3.out HLN.out).mono ?_; rintro e w4 ⟨rfl, hb4⟩; have HB4 := hide hb4; clear hb4))
            go_roundw
            case rel => exact ⟨n + 1, by have := HNN.out; omega, by go_num, HLAB.out, hide (by rw [HNX.out]; exact HB4.out)⟩
            case measure => simp [intOf]; have := HNN.out; omega
end Go.Proofs.YtcmmbceacjechaaGreatDoor
