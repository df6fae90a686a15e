/- WALK of param.pieces. No statement is proved here. -/
import Derived.Test.YtcmmbceacjechaaGreatDoorParA
import Derived.Test.YtcmmbceacjechaaGreatDoorBaseM
namespace Go.Proofs.YtcmmbceacjechaaGreatDoor
open Go.RowKit
set_option linter.unusedVariables false
set_option linter.unusedSimpArgs false
set_option maxRecDepth 100000
theorem readQ_pos (r : List UInt8) : 1 ≤ (readQ (34 :: r)).2 := by
  unfold readQ
  simp only [beq_self_eq_true, if_true]
  omega
/-- the pieces of a text between its `;` that are not quoted; cur: what the piece has that is read just now -/
def pcL (cur : List UInt8) : List UInt8 → List (List UInt8)
  | [] => [cur]
  | c :: r => if c = 34 then pcL (cur ++ (c :: r).take ((readQ (c :: r)).2 - 1 + 1)) (r.drop ((readQ (c :: r)).2 - 1))
    else if c = 59 then cur :: pcL [] r else pcL (cur ++ [c]) r
termination_by l => l.length
decreasing_by all_goals simp; try omega
theorem pcL_nil (cur : List UInt8) : pcL cur [] = [cur] := by rw [pcL]
theorem pcL_quote (cur r : List UInt8) : pcL cur (34 :: r) = pcL (cur ++ (34 :: r).take (readQ (34 :: r)).2) ((34 :: r).drop (readQ (34 :: r)).2) := by
  rw [pcL, if_pos rfl]
  have := readQ_pos r
  obtain ⟨n, hn⟩ : ∃ n, (readQ (34 :: r)).2 = n + 1 := ⟨(readQ (34 :: r)).2 - 1, by omega⟩
  rw [hn]; rfl
theorem pcL_semi (cur r : List UInt8) : pcL cur (59 :: r) = cur :: pcL [] r := by rw [pcL, if_neg (by decide), if_pos rfl]
theorem pcL_other (cur : List UInt8) {c : UInt8} (h1 : c ≠ 34) (h2 : c ≠ 59) (r : List UInt8) : pcL cur (c :: r) = pcL (cur ++ [c]) r := by rw [pcL, if_neg h1, if_neg h2]
theorem mid_snoc (s : ByteArray) (b i n : Nat) (h : b ≤ i) (hn : i + n ≤ s.size) : (s.extract b i).data.toList ++ (s.data.toList.drop i).take n = (s.extract b (i + n)).data.toList := by
  rw [extract_list, extract_list, List.take_add, List.drop_append_of_le_length (by rw [List.length_take, toList_length]; omega)]
set_option maxHeartbeats 4000000 in
theorem pieces_any (s : ByteArray) (w : World) (hs : s.size ≤ 1048576) :
    Calls Tryz.prog 48 #[.string s] w fun e w' => ∃ (v : Value) (ps : List ByteArray), e = .returned v ∧ SBuf w.heap.size v ps w w' ∧ ps.map (fun x => x.data.toList) = pcL [] s.data.toList ∧ 1 ≤ ps.length ∧ ps.length ≤ s.size + 1 := by
  have HB0 := hide (SBuf.nil (Below.refl w.heap.size w) (Nat.le_refl _))
  go_enter Tryz.func48, Tryz.ntmps48
  go_wp2_with fail
  go_loopw [3, 4, 5] (fun v bv iv wr => ∃ (k b : Nat) (ps : List ByteArray), b ≤ k ∧ k ≤ s.size ∧ bv = .int .i64 b ∧ iv = .int .i64 k ∧ Hid (SBuf w.heap.size v ps w wr) ∧ Hid (ps.length ≤ k) ∧
    Hid (ps.map (fun x => x.data.toList) ++ pcL (s.extract b k).data.toList (s.data.toList.drop k) = pcL [] s.data.toList)) (fun _ _ iv _ => s.size - (intOf iv).toNat)
  case atStart => exact ⟨0, 0, [], Nat.le_refl _, Nat.zero_le _, rfl, rfl, HB0, hide (Nat.le_refl _), hide (by rw [extract_none]; rfl)⟩
  case round =>
    obtain ⟨k, b, ps, hbk, hk, rfl, rfl, HB, HL, HG⟩ := hrel
    by_cases hlt : k < s.size
    · have hdr := drop_cons s k hlt
      have hG := HG.out
      rw [hdr] at hG
      by_cases h34 : s[k] = 34
      · have t1 : ((s[k].toNat : Int) == ((((⟨#[34]⟩ : ByteArray)[0]'(by decide)).toNat : Nat) : Int)) = true := tT 34 h34 (by omega)
        have hG2 := hG
        rw [h34, pcL_quote] at hG2
        have hle := (readQ_le (34 :: s.data.toList.drop (k + 1))).2
        have hpos := readQ_pos (s.data.toList.drop (k + 1))
        obtain ⟨x, n, hx⟩ : ∃ x n, readQ (34 :: s.data.toList.drop (k + 1)) = (x, n) := ⟨_, _, rfl⟩
        have HQ := hide (fun (w : World) => readQ_any (s.extract k s.size) w (by rw [ByteArray.size_extract]; omega))
        rw [extract_end, hdr, h34, hx] at HQ
        simp only [readV] at HQ
        rw [hx] at hle hpos hG2
        rw [List.length_cons, List.length_drop, toList_length] at hle
        have hd2 : s.data.toList.drop k = 34 :: s.data.toList.drop (k + 1) := by rw [hdr, h34]
        have HGN : Hid (ps.map (fun x => x.data.toList) ++ pcL (s.extract b (k + n)).data.toList (s.data.toList.drop (k + n)) = pcL [] s.data.toList) := hide (by
          rw [← hG2, ← hd2, mid_snoc s b k n hbk (by omega), List.drop_drop])
        have k1 : (k : Int) ≤ s.size := by omega
        have q1 : IntKind.i64.wrap ((k : Int) + (n : Int)) = ((k + n : Nat) : Int) := by rw [IntWalk.i64_in _ (by omega)]; omega
        have n1 : 1 ≤ n := hpos
        have n2 : k + n ≤ s.size := by omega
        clear hdr hG hG2 h34 hx hle hd2 hpos
        go_wp2_with (go_at_call 92; refine (HQ.out _).mono ?_; rintro e w2 ⟨rfl, hb2⟩; have HB2 := hide (HB.out.kept hb2); clear hb2)
        go_roundw
        case rel => exact ⟨k + n, b, ps, by omega, n2, rfl, by go_num, HB2, hide (by have := HL.out; omega), HGN⟩
        case measure => simp [intOf]; omega
      · have t1 : ((s[k].toNat : Int) == ((((⟨#[34]⟩ : ByteArray)[0]'(by decide)).toNat : Nat) : Int)) = false := tF 34 h34 (by omega)
        by_cases h59 : s[k] = 59
        · have t2 : ((s[k].toNat : Int) == ((((⟨#[59]⟩ : ByteArray)[0]'(by decide)).toNat : Nat) : Int)) = true := tT 59 h59 (by omega)
          have HGN : Hid ((ps ++ [s.extract b k]).map (fun x => x.data.toList) ++ pcL (s.extract (k + 1) (k + 1)).data.toList (s.data.toList.drop (k + 1)) = pcL [] s.data.toList) := hide (by
            rw [← hG, h59, pcL_semi, extract_none, List.map_append, List.append_assoc]; rfl)
          have k1 : (k : Int) ≤ s.size := by omega
          have b1 : (b : Int) ≤ k := by omega
          have HLN : Hid (ps.length + 1 ≤ 8796093022208) := hide (by have := HL.out; omega)
          clear hdr hG h34 h59
          go_wp2_with (refine wpList_strs rfl _ _ rfl w.heap.size u3 ps rfl w wr (s.extract b k) HB.out rfl HLN.out ?_; intro v2 w2 hb2; have HB2 := hide hb2; clear hb2)
          go_roundw
          case rel => exact ⟨k + 1, k + 1, _, Nat.le_refl _, by omega, by go_num, by go_num, HB2, hide (by have := HL.out; simp; omega), HGN⟩
          case measure => simp [intOf]; omega
        · have t2 : ((s[k].toNat : Int) == ((((⟨#[59]⟩ : ByteArray)[0]'(by decide)).toNat : Nat) : Int)) = false := tF 59 h59 (by omega)
          have HGN : Hid (ps.map (fun x => x.data.toList) ++ pcL (s.extract b (k + 1)).data.toList (s.data.toList.drop (k + 1)) = pcL [] s.data.toList) := hide (by
            rw [← hG, pcL_other _ h34 h59, ← mid_snoc s b k 1 hbk (by omega), hdr]; rfl)
          clear hdr hG h34 h59
          go_wp2_with fail
          go_roundw
          case rel => exact ⟨k + 1, b, ps, by omega, by omega, rfl, by go_num, HB, hide (by have := HL.out; omega), HGN⟩
          case measure => simp [intOf]; omega
    · have hke : k = s.size := by omega
      have HGE : Hid ((ps ++ [s.extract b s.size]).map (fun x => x.data.toList) = pcL [] s.data.toList) := hide (by
        have := HG.out
        rw [hke, drop_nil s s.size (Nat.le_refl _), pcL_nil] at this
        rw [← this, List.map_append]; rfl)
      have b1 : (b : Int) ≤ s.size := by omega
      have HLN : Hid (ps.length + 1 ≤ 8796093022208) := hide (by have := HL.out; omega)
      have HLE : Hid ((ps ++ [s.extract b s.size]).length ≤ s.size + 1) := hide (by have := HL.out; simp; omega)
      clear hke
      go_wp2_with (refine wpList_strs rfl _ _ rfl w.heap.size u3 ps rfl w wr (s.extract b s.size) HB.out rfl HLN.out ?_; intro v2 w2 hb2; have HB2 := hide hb2; clear hb2)
      go_ret
      exact ⟨_, _, rfl, HB2.out, HGE.out, by simp, HLE.out⟩
end Go.Proofs.YtcmmbceacjechaaGreatDoor
