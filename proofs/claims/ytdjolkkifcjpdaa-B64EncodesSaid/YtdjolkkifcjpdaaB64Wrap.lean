/- WALK of b64.Wrap. No statement is proved here. -/
import Derived.Test.YtdjolkkifcjpdaaB64Enc
import Derived.Test.YtdjolkkifcjpdaaBuilder
namespace Go.Proofs.Ytdjolkkifcjpdaa
open Go.RowKit
set_option linter.unusedVariables false
set_option linter.unusedSimpArgs false

set_option maxHeartbeats 2000000 in
theorem wrap_any (s : ByteArray) (z : Int) (n : Nat) (w : World) (hs : s.size ≤ 100000) (hz : z ≤ 9223372036854775807) (hn : max z 1 = (n : Int)) :
    Calls Try.prog 19 #[.string s, .int .i64 z] w fun e w' => e = .returned (.string (str (wrapL n (encB s.data.toList)))) ∧ Below w.heap.size w w' := by
  have hn1 : 1 ≤ n := by omega
  have hn2 : (n : Int) ≤ 9223372036854775807 := by omega
  have hbl := encB_length s.data.toList
  rw [toList_length] at hbl
  obtain ⟨T, hT⟩ : ∃ T, T = encB s.data.toList := ⟨_, rfl⟩
  rw [← hT] at hbl ⊢
  have HT := hide hT
  clear hT
  have hb0 : Bld w.heap.size w.heap.size [] w (w.alloc (.cells #[.pointer none, .slice none 0 0] 40)) := Bld.new (Below.refl _ _) (Nat.le_refl _)
  have HB0 := hide hb0
  clear hb0
  go_enter Try.func19, Try.ntmps19
  go_wp2_with fail
  refine (encode64_any s _ hs).mono ?_
  rintro e w1 ⟨rfl, hb1⟩
  rw [← HT.out]
  have HB1 := hide (HB0.out.kept hb1)
  clear hb1
  go_wp2_with fail
  go_loopw [6] (fun r wr => ∃ (acc rest : List UInt8), r = .string (str rest) ∧ Bld w.heap.size w.heap.size acc w wr ∧ acc ++ wrapL n rest = wrapL n T ∧ acc.length + 3 * rest.length ≤ 3 * T.length) (fun r _ => match r with | .string x => x.size | _ => 0)
  case atStart => exact ⟨[], T, rfl, HB1.out, rfl, by simp⟩
  case round =>
    obtain ⟨acc, rest, rfl, hb, hR, hl⟩ := hrel
    have hzr : (str rest).size = rest.length := str_size rest
    have HB := hide hb
    have HR := hide hR
    clear hb hR
    by_cases hlt : n < rest.length
    · have hlt' : (n : Int) < rest.length := by omega
      have hx1 : (str rest).extract 0 n = str (rest.take n) := ext_list (by rw [extract_list, str_toList, str_toList, List.drop_zero])
      have hx2 : (str rest).extract n rest.length = str (rest.drop n) := ext_list (by rw [← str_size rest, extract_end, str_toList, str_toList])
      have hz1 : (str (rest.take n)).size = n := by rw [str_size, List.length_take]; omega
      have HG := hide (wrapL_go hn1 hlt)
      have ht : (rest.take n).length = n := by rw [List.length_take]; omega
      have hd : (rest.drop n).length = rest.length - n := List.length_drop
      have HTK := hide ht
      have HDR := hide hd
      clear ht hd
      go_wp2_with fail
      refine (writeString_any w.heap.size w.heap.size acc (str (rest.take n)) w _ HB.out (by rw [hz1]; omega)).mono ?_
      rintro e w2 ⟨rfl, hb2⟩
      rw [str_toList] at hb2
      have HB2 := hide hb2
      clear hb2
      go_wp2_with fail
      refine (writeString_any w.heap.size w.heap.size (acc ++ rest.take n) ⟨#[13, 10]⟩ w _ HB2.out (by rw [List.length_append, HTK.out]; show _ + 2 ≤ _; omega)).mono ?_
      rintro e w3 ⟨rfl, hb3⟩
      have HB3 := hide hb3
      clear hb3
      go_wp2_with fail
      go_roundw
      case rel => exact ⟨acc ++ rest.take n ++ [13, 10], rest.drop n, rfl, HB3.out, by rw [← HR.out, HG.out]; simp, by rw [List.length_append, List.length_append, HTK.out, HDR.out]; simp; omega⟩
      case measure =>
        show (str (rest.drop n)).size < (str rest).size
        rw [str_size, str_size, HDR.out]; omega
    · have hlt' : ¬ (n : Int) < rest.length := by omega
      have HG := hide (wrapL_end hlt)
      go_wp2_with fail
      refine (writeString_any w.heap.size w.heap.size acc (str rest) w _ HB.out (by rw [hzr]; omega)).mono ?_
      rintro e w2 ⟨rfl, hb2⟩
      rw [str_toList] at hb2
      have HB2 := hide hb2
      clear hb2
      go_wp2_with fail
      refine HB2.out.string.mono ?_
      rintro e w3 ⟨rfl, hb3⟩
      go_wp2_with fail
      go_ret
      exact ⟨ret_str (by rw [← HR.out, HG.out]), hb3⟩
end Go.Proofs.Ytdjolkkifcjpdaa
