/- WALK of the reference of layer 7: several. No statement is proved here. -/
import Derived.Test.YtienjpelmbldpaaGreatDoorRef07N
import Derived.Test.YtienjpelmbldpaaGreatDoorParK
import Derived.Test.YtienjpelmbldpaaGreatDoorPctRefX
import Derived.Test.YtienjpelmbldpaaGreatDoorRefD
import Derived.Test.YtienjpelmbldpaaGreatDoorRef05D
namespace Go.Proofs.YtienjpelmbldpaaGreatDoor
open Go.RowKit
set_option linter.unusedVariables false
set_option linter.unusedSimpArgs false
set_option maxRecDepth 100000
theorem optV_some {l : List ParL} {k : List UInt8} {x : List UInt8} (h : getP l k = some x) : optV (getP l k) = .tuple #[.string (str x), .bool true] := by rw [h]; rfl
theorem optV_none {l : List ParL} {k : List UInt8} (h : getP l k = none) : optV (getP l k) = .tuple #[.string ⟨#[]⟩, .bool false] := by rw [h]; rfl
set_option maxHeartbeats 8000000 in
theorem several07_any (v : Value) (l : List ParL) (name : ByteArray) (w : World) (hM : ParsIn w v l) (hll : l.length ≤ 1000000) (hz : name.size ≤ 1048576) (hf : ∀ k x, getP l k = some x → x.length ≤ 1048576)
    (N : Nat) (hN : N ≤ 1000000) (hno : secL (getP l) name.data.toList N = none) (hyes : ∀ n, n < N → secL (getP l) name.data.toList n ≠ none) (hsz : ∀ n, n ≤ N → (coAt (getP l) name.data.toList n).1.length ≤ 1048576 ∧ (coAt (getP l) name.data.toList n).2.length ≤ 1048576) :
    Calls Tryz.prog 48 #[v, .string name] w fun e w' => e = .returned (.tuple #[.string (str (coV (getP l) name.data.toList N).1), .bool (coV (getP l) name.data.toList N).2]) ∧ Below w.heap.size w w' := by
  obtain ⟨A, cap, rfl⟩ := hM.form
  have HM := hide hM
  have HSZ := hide hsz
  have HYES := hide hyes
  have HNO := hide hno
  have HF := hide hf
  clear hM hsz hyes hno hf
  go_enter Tryz.func48, Tryz.ntmps48
  go_wp2_with fail
  go_loopw [6, 7, 8] (fun lv ov nv wr => ∃ n : Nat, n ≤ N ∧ nv = .int .i64 n ∧ lv = .string (str (coAt (getP l) name.data.toList n).1) ∧ ov = .string (str (coAt (getP l) name.data.toList n).2) ∧ Hid (Below w.heap.size w wr)) (fun _ _ nv _ => N + 1 - (intOf nv).toNat)
  case atStart => exact ⟨0, Nat.zero_le _, rfl, rfl, rfl, hide (Below.refl _ _)⟩
  case round =>
    obtain ⟨n, hn, rfl, rfl, rfl, HB⟩ := hrel
    have CN := hide (fun (w : World) => number07_any n (by omega) w)
    obtain ⟨I, hI⟩ : ∃ I, I = str (numP n) := ⟨_, rfl⟩
    have hIz : I.size ≤ 21 := by rw [hI, str_size]; exact numP_len n (by omega)
    rw [← hI] at CN
    have e1 : (((name ++ ⟨#[42]⟩) ++ I) : ByteArray).data.toList = name.data.toList ++ 42 :: numP n := by rw [hI]; simp [str]
    have e2 : ((((name ++ ⟨#[42]⟩) ++ I) ++ ⟨#[42]⟩) : ByteArray).data.toList = name.data.toList ++ 42 :: numP n ++ [42] := by rw [hI]; simp [str]
    have z0 : (name ++ (⟨#[42]⟩ : ByteArray)).size = name.size + 1 := ByteArray.size_append
    have z1 : ((name ++ ⟨#[42]⟩) ++ I : ByteArray).size = name.size + 1 + I.size := by rw [ByteArray.size_append, z0]
    have C2 := hide (fun (w' : World) (h : ParsIn w' (.slice A l.length cap) l) => find07_any _ l (((name ++ ⟨#[42]⟩) ++ I) ++ ⟨#[42]⟩) w' h hll)
    have C1 := hide (fun (w' : World) (h : ParsIn w' (.slice A l.length cap) l) => find07_any _ l ((name ++ ⟨#[42]⟩) ++ I) w' h hll)
    rw [e2] at C2
    rw [e1] at C1
    have hsz := HSZ.out n hn
    obtain ⟨LA, hLA⟩ : ∃ LA, LA = str (coAt (getP l) name.data.toList n).1 := ⟨_, rfl⟩
    obtain ⟨OU, hOU⟩ : ∃ OU, OU = str (coAt (getP l) name.data.toList n).2 := ⟨_, rfl⟩
    have hOZ : OU.size ≤ 1048576 := by rw [hOU, str_size]; exact hsz.2
    have hLZ : LA.size ≤ 1048576 := by rw [hLA, str_size]; exact hsz.1
    have hOl : OU.data.toList = (coAt (getP l) name.data.toList n).2 := by rw [hOU, str_toList]
    have hLl : LA.data.toList = (coAt (getP l) name.data.toList n).1 := by rw [hLA, str_toList]
    have HSE : Hid (secL (getP l) name.data.toList n = match getP l (name.data.toList ++ 42 :: numP n ++ [42]) with
      | some x => some (x, true)
      | none => match getP l (name.data.toList ++ 42 :: numP n) with
        | some x => some (x, false)
        | none => none) := hide rfl
    have HX2 := hide (HF.out (name.data.toList ++ 42 :: numP n ++ [42]))
    have HX1 := hide (HF.out (name.data.toList ++ 42 :: numP n))
    have HBM : Hid (ParsIn wr (.slice A l.length cap) l) := hide (HM.out.kept HB.out)
    rw [← hLA, ← hOU]
    generalize getP l (name.data.toList ++ 42 :: numP n ++ [42]) = o2 at C2 HSE HX2
    generalize getP l (name.data.toList ++ 42 :: numP n) = o1 at C1 HSE HX1
    clear e1 e2 hI hsz
    cases o2 with
    | none =>
      cases o1 with
      | none =>
        have hs : secL (getP l) name.data.toList n = none := HSE.out
        have hNn : n = N := by
          rcases Nat.lt_or_ge n N with h | h
          · exact absurd hs (HYES.out n h)
          · omega
        obtain ⟨R, hR⟩ : ∃ R, R = str (coV (getP l) name.data.toList N).1 := ⟨_, rfl⟩
        have HD := hide (fun (w : World) => refCharsDecode_any LA OU w (by omega) hOZ)
        rw [hLl, hOl] at HD
        simp only [decV] at HD
        rw [show str (decodeL (kindL (coAt (getP l) name.data.toList n).1) (coAt (getP l) name.data.toList n).2) = R by rw [hR, ← hNn]; rfl] at HD
        have HV : Hid (str (coV (getP l) name.data.toList N).1 = R) := hide hR.symm
        have HV2 : Hid ((coV (getP l) name.data.toList N).2 = decide (0 < n)) := hide (by rw [hNn]; rfl)
        have t1 : decide ((0 : Int) < (n : Int)) = decide (0 < n) := by congr 1; exact propext (by omega)
        simp only [optV] at C1 C2
        clear hs hNn hR hLA hOU hOl hLl HX1 HX2 HSE
        go_wp2_with (first
          | (go_at_call 78; refine (CN.out _).mono ?_; rintro e w1 ⟨rfl, hb1⟩; have HB := hide (HB.out.trans (hb1.mono HB.out.size)); have HBM := hide (HBM.out.kept hb1); clear hb1)
          | (go_at_call 29; with_reducible refine (C2.out _ HBM.out).mono ?_; rintro e w1 ⟨rfl, hb1⟩; have HB := hide (HB.out.trans (hb1.mono HB.out.size)); have HBM := hide (HBM.out.kept hb1); clear hb1)
          | (go_at_call 29; with_reducible refine (C1.out _ HBM.out).mono ?_; rintro e w1 ⟨rfl, hb1⟩; have HB := hide (HB.out.trans (hb1.mono HB.out.size)); have HBM := hide (HBM.out.kept hb1); clear hb1)
          | (go_at_call 47; refine (HD.out _).mono ?_; rintro e w1 ⟨rfl, hb1⟩; have HB := hide (HB.out.trans (hb1.mono HB.out.size)); clear hb1))
        go_ret2
        exact ⟨by rw [HV.out, HV2.out]; first | rfl | (rw [← t1]; rfl), HB.out⟩
      | some x =>
        have hs : secL (getP l) name.data.toList n = some (x, false) := HSE.out
        have hlt : n < N := by
          rcases Nat.lt_or_ge n N with h | h
          · exact h
          · have : n = N := by omega
            rw [this, HNO.out] at hs; cases hs
        obtain ⟨X, hX⟩ : ∃ X, X = str x := ⟨_, rfl⟩
        have hXl : X.data.toList = x := by rw [hX, str_toList]
        have hXz : X.size ≤ 1048576 := by rw [hX, str_size]; exact HX1.out _ rfl
        simp only [optV] at C1 C2
        rw [← hX] at C1
        have hnx := coAt_succ hs
        have HLAB : Hid (Value.string LA = .string (str (coAt (getP l) name.data.toList (n + 1)).1)) := hide (by rw [hnx, hLA]; rfl)
        have HNX : Hid (Value.string (OU ++ X) = .string (str (coAt (getP l) name.data.toList (n + 1)).2)) := hide (by
          rw [hnx, hOU, hX, ← str_append]; rfl)
        have HNN := hide hlt
        clear hs hX hXl hnx hlt hLA hOU hOl hLl HX1 HX2 HSE
        go_wp2_with (first
          | (go_at_call 78; refine (CN.out _).mono ?_; rintro e w1 ⟨rfl, hb1⟩; have HB := hide (HB.out.trans (hb1.mono HB.out.size)); have HBM := hide (HBM.out.kept hb1); clear hb1)
          | (go_at_call 29; with_reducible refine (C2.out _ HBM.out).mono ?_; rintro e w1 ⟨rfl, hb1⟩; have HB := hide (HB.out.trans (hb1.mono HB.out.size)); have HBM := hide (HBM.out.kept hb1); clear hb1)
          | (go_at_call 29; with_reducible refine (C1.out _ HBM.out).mono ?_; rintro e w1 ⟨rfl, hb1⟩; have HB := hide (HB.out.trans (hb1.mono HB.out.size)); have HBM := hide (HBM.out.kept hb1); clear hb1))
        go_roundw
        case rel => exact ⟨n + 1, by have := HNN.out; omega, by go_num, HLAB.out, HNX.out, HB⟩
        case measure => simp [intOf]; have := HNN.out; omega
    | some x =>
      have hs : secL (getP l) name.data.toList n = some (x, true) := HSE.out
      have hlt : n < N := by
        rcases Nat.lt_or_ge n N with h | h
        · exact h
        · have : n = N := by omega
          rw [this, HNO.out] at hs; cases hs
      obtain ⟨Y1, hY1⟩ : ∃ Y1, Y1 = str (o1.getD []) := ⟨_, rfl⟩
      have e1v : optV o1 = .tuple #[.string Y1, .bool o1.isSome] := by rw [hY1]; cases o1 <;> rfl
      rw [e1v] at C1
      generalize o1.isSome = b1 at C1
      clear hY1 e1v HX1 HSE
      obtain ⟨X, hX⟩ : ∃ X, X = str x := ⟨_, rfl⟩
      have hXl : X.data.toList = x := by rw [hX, str_toList]
      have hXz : X.size ≤ 1048576 := by rw [hX, str_size]; exact HX2.out _ rfl
      have hnx := coAt_succ hs
      have HNN := hide hlt
      have HXT := hide (fun (w : World) => refExtended_any X w (by omega))
      rw [hXl] at HXT
      have HPD := hide (fun (w : World) => refDecode03_any X w (by omega))
      rw [hXl] at HPD
      obtain ⟨Y, hY⟩ : ∃ Y, Y = str (pdec x) := ⟨_, rfl⟩
      rw [← hY] at HPD
      have hYz : Y.size ≤ 1048576 := by rw [hY, str_size]; have := (pdec_length x).1; rw [← toList_length, hXl] at hXz; omega
      by_cases hcase : n = 0 ∧ ∃ p, pExt x = some p
      · obtain ⟨h0, ⟨a, b⟩, hpx⟩ := hcase
        have n0 : ((n : Int) == 0) = true := beq_iff_eq.2 (by omega)
        rw [hpx] at HXT
        simp only [extV] at HXT
        have hps := pExt_sizes hpx
        obtain ⟨Z, hZ⟩ : ∃ Z, Z = str b := ⟨_, rfl⟩
        obtain ⟨L, hL⟩ : ∃ L, L = str a := ⟨_, rfl⟩
        rw [← hZ, ← hL] at HXT
        have HLAB : Hid (Value.string L = .string (str (coAt (getP l) name.data.toList (n + 1)).1)) := hide (by rw [hnx, hL]; unfold coStep; rw [if_pos rfl, if_pos h0, hpx])
        have HNX : Hid (Value.string (OU ++ Z) = .string (str (coAt (getP l) name.data.toList (n + 1)).2)) := hide (by rw [hnx, hOU, hZ, ← str_append]; unfold coStep; rw [if_pos rfl, if_pos h0, hpx])
        have hZz : Z.size ≤ 1048576 := by rw [hZ, str_size]; rw [← toList_length, hXl] at hXz; omega
        all_goals
          simp only [optV] at C2
          rw [← hX] at C2
          clear hs hX hXl hnx hlt hLA hOU hOl hLl HX2 hpx h0 hY hZ hL hps
          go_wp2_with (first
            | (go_at_call 78; refine (CN.out _).mono ?_; rintro e w1 ⟨rfl, hb1⟩; have HB := hide (HB.out.trans (hb1.mono HB.out.size)); have HBM := hide (HBM.out.kept hb1); clear hb1)
            | (go_at_call 29; with_reducible refine (C2.out _ HBM.out).mono ?_; rintro e w1 ⟨rfl, hb1⟩; have HB := hide (HB.out.trans (hb1.mono HB.out.size)); have HBM := hide (HBM.out.kept hb1); clear hb1)
            | (go_at_call 29; with_reducible refine (C1.out _ HBM.out).mono ?_; rintro e w1 ⟨rfl, hb1⟩; have HB := hide (HB.out.trans (hb1.mono HB.out.size)); have HBM := hide (HBM.out.kept hb1); clear hb1)
            | (go_at_call 46; refine (HXT.out _).mono ?_; rintro e w1 ⟨rfl, hb1⟩; have HB := hide (HB.out.trans (hb1.mono HB.out.size)); clear hb1))
          go_roundw
          case rel => exact ⟨n + 1, by have := HNN.out; omega, by go_num, HLAB.out, HNX.out, HB⟩
          case measure => simp [intOf]; have := HNN.out; omega
      · have hst : coStep (coAt (getP l) name.data.toList n).1 x true n = ((coAt (getP l) name.data.toList n).1, pdec x) := by
          unfold coStep
          rw [if_pos rfl]
          split
          · rename_i h0
            cases hp : pExt x with
            | none => rfl
            | some p => exact absurd ⟨h0, p, hp⟩ hcase
          · rfl
        have HLAB : Hid (Value.string LA = .string (str (coAt (getP l) name.data.toList (n + 1)).1)) := hide (by rw [hnx, hst, hLA])
        have HNX : Hid (Value.string (OU ++ Y) = .string (str (coAt (getP l) name.data.toList (n + 1)).2)) := hide (by rw [hnx, hst, hOU, hY, ← str_append])
        by_cases h0 : n = 0
        · have n0 : ((n : Int) == 0) = true := beq_iff_eq.2 (by omega)
          have hpx : pExt x = none := by
            cases hp : pExt x with
            | none => rfl
            | some p => exact absurd ⟨h0, p, hp⟩ hcase
          rw [hpx] at HXT
          simp only [extV] at HXT
          all_goals
            simp only [optV] at C2
            rw [← hX] at C2
            clear hs hX hXl hnx hlt hLA hOU hOl hLl HX2 hpx h0 hY hst hcase
            go_wp2_with (first
              | (go_at_call 78; refine (CN.out _).mono ?_; rintro e w1 ⟨rfl, hb1⟩; have HB := hide (HB.out.trans (hb1.mono HB.out.size)); have HBM := hide (HBM.out.kept hb1); clear hb1)
              | (go_at_call 29; with_reducible refine (C2.out _ HBM.out).mono ?_; rintro e w1 ⟨rfl, hb1⟩; have HB := hide (HB.out.trans (hb1.mono HB.out.size)); have HBM := hide (HBM.out.kept hb1); clear hb1)
              | (go_at_call 29; with_reducible refine (C1.out _ HBM.out).mono ?_; rintro e w1 ⟨rfl, hb1⟩; have HB := hide (HB.out.trans (hb1.mono HB.out.size)); have HBM := hide (HBM.out.kept hb1); clear hb1)
              | (go_at_call 46; refine (HXT.out _).mono ?_; rintro e w1 ⟨rfl, hb1⟩; have HB := hide (HB.out.trans (hb1.mono HB.out.size)); clear hb1)
              | (go_at_call 72; refine (HPD.out _).mono ?_; rintro e w1 ⟨rfl, hb1⟩; have HB := hide (HB.out.trans (hb1.mono HB.out.size)); clear hb1))
            go_roundw
            case rel => exact ⟨n + 1, by have := HNN.out; omega, by go_num, HLAB.out, HNX.out, HB⟩
            case measure => simp [intOf]; have := HNN.out; omega
        · have n0 : ((n : Int) == 0) = false := beq_eq_false_iff_ne.2 (by omega)
          rcases hpx : pExt x with _ | ⟨a, b⟩
          all_goals
            rw [hpx] at HXT
            simp only [extV] at HXT
          all_goals
            simp only [optV] at C2
            rw [← hX] at C2
            clear hs hX hXl hnx hlt hLA hOU hOl hLl HX2 h0 hY hst hcase
            go_wp2_with (first
              | (go_at_call 78; refine (CN.out _).mono ?_; rintro e w1 ⟨rfl, hb1⟩; have HB := hide (HB.out.trans (hb1.mono HB.out.size)); have HBM := hide (HBM.out.kept hb1); clear hb1)
              | (go_at_call 29; with_reducible refine (C2.out _ HBM.out).mono ?_; rintro e w1 ⟨rfl, hb1⟩; have HB := hide (HB.out.trans (hb1.mono HB.out.size)); have HBM := hide (HBM.out.kept hb1); clear hb1)
              | (go_at_call 29; with_reducible refine (C1.out _ HBM.out).mono ?_; rintro e w1 ⟨rfl, hb1⟩; have HB := hide (HB.out.trans (hb1.mono HB.out.size)); have HBM := hide (HBM.out.kept hb1); clear hb1)
              | (go_at_call 46; refine (HXT.out _).mono ?_; rintro e w1 ⟨rfl, hb1⟩; have HB := hide (HB.out.trans (hb1.mono HB.out.size)); clear hb1)
              | (go_at_call 72; refine (HPD.out _).mono ?_; rintro e w1 ⟨rfl, hb1⟩; have HB := hide (HB.out.trans (hb1.mono HB.out.size)); clear hb1))
            go_roundw
            case rel => exact ⟨n + 1, by have := HNN.out; omega, by go_num, HLAB.out, HNX.out, HB⟩
            case measure => simp [intOf]; have := HNN.out; omega
end Go.Proofs.YtienjpelmbldpaaGreatDoor
