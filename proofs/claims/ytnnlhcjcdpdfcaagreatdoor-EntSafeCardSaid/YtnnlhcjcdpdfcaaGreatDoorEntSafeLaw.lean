/- WALK of the law EntSafe. No statement is proved here. -/
import Derived.Test.YtnnlhcjcdpdfcaaGreatDoorEntL0
import Derived.Test.YtnnlhcjcdpdfcaaGreatDoorRef12B
namespace Go.Proofs.YtnnlhcjcdpdfcaaGreatDoor
open Go.RowKit
set_option linter.unusedVariables false
set_option linter.unusedSimpArgs false
set_option maxRecDepth 100000
theorem good_one {r : List UInt8} (h : GoodR r) : ∃ (V : ByteArray) (n : Nat), onRL (38 :: r) = .tuple #[.string V, .int .i64 (n + 1 : Nat)] := by
  obtain ⟨k, X, rfl, hk⟩ := h
  have key : ∀ (k : List UInt8) (x : Int), (59 : UInt8) ∉ k → k.length ≤ 8 → sgn k = some x → ∃ (V : ByteArray) (n : Nat), onRL (38 :: (k ++ 59 :: X)) = .tuple #[.string V, .int .i64 (n + 1 : Nat)] := by
    intro k x h1 h2 h3
    refine ⟨str (runeL x), k.length + 1, ?_⟩
    show onRV (refN (k ++ 59 :: X)) = _
    rw [refN_at h1 h2, h3]
    exact onRV_some x k.length
  rcases hk with rfl | rfl | rfl | rfl | rfl
  · exact key _ 38 (by decide) (by decide) (by decide)
  · exact key _ 60 (by decide) (by decide) (by decide)
  · exact key _ 62 (by decide) (by decide) (by decide)
  · exact key _ 160 (by decide) (by decide) (by decide)
  · exact key _ 34 (by decide) (by decide) (by decide)
set_option maxHeartbeats 4000000 in
theorem law_EntSafe (s : ByteArray) (hss : s.size ≤ maxLen) (w : World) (hE : EnvX w) :
    Calls Tryz.prog 11 #[.string s] w fun e w' => e = .returned (.bool true) ∧ Below w.heap.size w w' := by
  have HE := hide hE
  clear hE
  rcases Nat.lt_or_ge 5000 s.size with hqs | hs
  · have HDs : Hid (decide (s.size ≤ 5000) = false) := hide (decide_eq_false (by omega))
    clear hqs
    go_enter Tryz.func11, Tryz.ntmps11
    go_wp2_with fail
    refine (short12_any s _ hss).mono ?_
    rintro e wq ⟨rfl, rfl⟩
    rw [HDs.out]
    go_wp2_with fail
    refine (live12_any _ HE.out).mono ?_
    rintro e wl ⟨rfl, hbl⟩
    go_wp2_with fail
    go_ret
    exact ⟨rfl, hbl⟩
  have HDs : Hid (decide (s.size ≤ 5000) = true) := hide (decide_eq_true hs)
  obtain ⟨X, hX⟩ : ∃ X, X = str (escQ false s.data.toList) := ⟨_, rfl⟩
  have HX : Hid (str (escQ false s.data.toList) = X) := hide hX.symm
  obtain ⟨Y, hY⟩ : ∃ Y, Y = str (escQ true s.data.toList) := ⟨_, rfl⟩
  have HY : Hid (str (escQ true s.data.toList) = Y) := hide hY.symm
  have hs2 : s.size ≤ 1048576 := by omega
  have hs3 : s.size ≤ 17592186044416 := by omega
  have zl := toList_length s
  have zX : X.size ≤ 1048576 := by
    rw [hX, str_size]; have := esc_len false s.data.toList; omega
  have zY : Y.size ≤ 1048576 := by
    rw [hY, str_size]; have := esc_len true s.data.toList; omega
  have hXl : X.data.toList = escQ false s.data.toList := by rw [hX, str_toList]
  have hYl : Y.data.toList = escQ true s.data.toList := by rw [hY, str_toList]
  have HXN : Hid (∀ c ∈ X.data.toList, c ≠ 60 ∧ c ≠ 62) := hide (fun c h => by rw [hXl] at h; have := esc_no false _ c h; exact ⟨this.1, this.2.1⟩)
  have HYN : Hid (∀ c ∈ Y.data.toList, c ≠ 60 ∧ c ≠ 62 ∧ c ≠ 34) := hide (fun c h => by rw [hYl] at h; have := esc_no true _ c h; exact ⟨this.1, this.2.1, this.2.2 rfl⟩)
  have HXG : Hid (∀ i r, X.data.toList.drop i = 38 :: r → GoodR r) := hide (fun i r h => by rw [hXl] at h; exact esc_good false _ i r h)
  clear hX hY zl hXl hYl
  go_enter Tryz.func11, Tryz.ntmps11
  go_wp2_with fail
  refine (short12_any s _ hss).mono ?_
  rintro e wq ⟨rfl, rfl⟩
  rw [HDs.out]
  go_wp2_with fail
  refine (entText_any s _ hs3).mono ?_
  rintro e w1 ⟨rfl, hb1⟩
  have HE1 := hide (HE.out.kept hb1)
  have HB1 := hide (hb1)
  clear hb1
  rw [HX.out]
  go_wp2_with fail
  refine (entValue_any s _ hs2 HE1.out).mono ?_
  rintro e w2 ⟨rfl, hb2⟩
  have HE2 := hide (HE1.out.kept hb2)
  have HB2 := hide (HB1.out.trans (hb2.mono HB1.out.size))
  clear hb2
  rw [HY.out]
  go_wp2_with fail
  go_loopw [5] (fun iv wr => ∃ k : Nat, k ≤ X.size ∧ iv = .int .i64 k ∧ Hid (EnvX wr) ∧ Hid (Below w.heap.size w wr)) (fun iv _ => X.size - (intOf iv).toNat)
  case atStart => exact ⟨0, Nat.zero_le _, rfl, HE2, HB2⟩
  case round =>
    obtain ⟨k, hk, rfl, HEL, HBL⟩ := hrel
    by_cases hlt : k < X.size
    · have hmem : X[k] ∈ X.data.toList := by
        have := drop_cons X k hlt
        exact List.mem_of_mem_drop (i := k) (by rw [this]; exact List.mem_cons_self ..)
      have hno := HXN.out _ hmem
      have t60 : ((X[k].toNat : Int) == 60) = false := tF 60 hno.1 (by omega)
      have t62 : ((X[k].toNat : Int) == 62) = false := tF 62 hno.2 (by omega)
      by_cases h38 : X[k] = 38
      · have t38 : ((X[k].toNat : Int) == 38) = true := tT 38 h38 (by omega)
        have hd := drop_cons X k hlt
        rw [h38] at hd
        obtain ⟨V, n, hv⟩ := good_one (HXG.out k _ hd)
        have HO := hide (fun (w : World) => refOnR_any (X.extract k X.size) w (by rw [ByteArray.size_extract]; omega))
        rw [extract_end, hd, hv] at HO
        have nn : (((n : Int) + 1) == 0) = false := beq_eq_false_iff_ne.2 (by omega)
        have k1 : (k : Int) ≤ X.size := by omega
        clear hmem hno h38 hd hv
        go_wp2_with (go_at_call 34; refine (HO.out _).mono ?_; rintro e w3 ⟨rfl, hb3⟩; have HE3 := hide (HEL.out.kept hb3); have HB3 := hide (HBL.out.trans (hb3.mono HBL.out.size)); clear hb3)
        go_roundw
        case rel => exact ⟨k + 1, by omega, by go_num, HE3, HB3⟩
        case measure => simp [intOf]; omega
      · have t38 : ((X[k].toNat : Int) == 38) = false := tF 38 h38 (by omega)
        clear hmem hno h38
        go_wp2_with fail
        go_roundw
        case rel => exact ⟨k + 1, by omega, by go_num, HEL, HBL⟩
        case measure => simp [intOf]; omega
    · go_wp2_with fail
      clear hlt hk
      go_loopw [8] (fun iv w2 => ∃ k : Nat, k ≤ Y.size ∧ iv = .int .i64 k ∧ Hid (w2 = wr)) (fun iv _ => Y.size - (intOf iv).toNat)
      case atStart => exact ⟨0, Nat.zero_le _, rfl, hide rfl⟩
      case round =>
        obtain ⟨k, hk, rfl, HW⟩ := hrel
        obtain rfl := HW.out
        by_cases hlt : k < Y.size
        · have hmem : Y[k] ∈ Y.data.toList := by
            have := drop_cons Y k hlt
            exact List.mem_of_mem_drop (i := k) (by rw [this]; exact List.mem_cons_self ..)
          have hno := HYN.out _ hmem
          have t60 : ((Y[k].toNat : Int) == 60) = false := tF 60 hno.1 (by omega)
          have t62 : ((Y[k].toNat : Int) == 62) = false := tF 62 hno.2.1 (by omega)
          have t34 : ((Y[k].toNat : Int) == 34) = false := tF 34 hno.2.2 (by omega)
          clear hmem hno
          go_wp2_with fail
          go_roundw
          case rel => exact ⟨k + 1, by omega, by go_num, by first | exact trivial | exact hide rfl⟩
          case measure => simp [intOf]; omega
        · go_wp2_with fail
          refine (live12_any _ HEL.out).mono ?_
          rintro e wl ⟨rfl, hbl⟩
          have HBN := hide (HBL.out.trans (hbl.mono HBL.out.size))
          clear hbl
          go_wp2_with fail
          go_ret
          exact ⟨rfl, HBN.out⟩
end Go.Proofs.YtnnlhcjcdpdfcaaGreatDoor
