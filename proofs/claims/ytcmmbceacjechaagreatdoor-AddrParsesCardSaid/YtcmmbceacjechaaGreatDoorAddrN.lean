/- WALK of addr.writeBox. No statement is proved here. -/
import Derived.Test.YtcmmbceacjechaaGreatDoorQuoteW
import Derived.Test.YtcmmbceacjechaaGreatDoorWordC
namespace Go.Proofs.YtcmmbceacjechaaGreatDoor
open Go.RowKit
set_option linter.unusedVariables false
set_option linter.unusedSimpArgs false
set_option maxRecDepth 100000
def writeBoxL (a b : List UInt8) : List UInt8 :=
  if a = [] then b else (if encodeL a = a then quoteL (encodeL a) else encodeL a) ++ [32, 60] ++ b ++ [62]
theorem quoteL_length (l : List UInt8) : (quoteL l).length ≤ 2 * l.length + 2 := by
  unfold quoteL
  have := escL_length l
  simp; omega
set_option maxHeartbeats 1600000 in
theorem writeBox_any (a b : List UInt8) (m : Int) (w : World) (ha : a.length ≤ 100000) (he : (encodeL a).length ≤ 100000000) (hb : b.length ≤ 1048576) (hm : w.cell? ⟨0, 0, none⟩ = some (.int .i64 m)) :
    Calls Tryz.prog 110 #[.agg #[.string (str a), .string (str b)]] w fun e w' => e = .returned (.string (str (writeBoxL a b))) ∧ Below w.heap.size w w' := by
  have B1 : Hid (Below w.heap.size w (w.alloc (.cells #[.string (str a), .string (str b)] 79))) := hide ((Below.refl w.heap.size w).alloc (Nat.le_refl _) _)
  have hlt : 0 < w.heap.size := by
    rcases Nat.lt_or_ge 0 w.heap.size with h1 | h1
    · exact h1
    · simp [World.cell?, Array.getElem?_eq_none h1] at hm
  have hm1 : (w.alloc (.cells #[.string (str a), .string (str b)] 79)).cell? ⟨0, 0, none⟩ = some (.int .i64 m) := (B1.out.cell hlt).trans hm
  have CE := hide (wordEncode_any (str a) m _ (by rw [str_size]; exact ha) hm1)
  rw [str_toList] at CE
  have HK : Hid (∀ w2, Below (w.alloc (.cells #[.string (str a), .string (str b)] 79)).heap.size (w.alloc (.cells #[.string (str a), .string (str b)] 79)) w2 → w2.heap[w.heap.size]? = some (.cells #[.string (str a), .string (str b)] 79)) :=
    hide fun w2 h => (h.block w.heap.size (by rw [World.size_alloc]; exact Nat.lt_succ_self _)).trans (heap_alloc_new w _)
  have HL : Hid (∀ w2, Below (w.alloc (.cells #[.string (str a), .string (str b)] 79)).heap.size (w.alloc (.cells #[.string (str a), .string (str b)] 79)) w2 → Below w.heap.size w w2) :=
    hide fun w2 h => B1.out.trans (h.mono (by rw [World.size_alloc]; exact Nat.le_succ _))
  have zb : (str b).size ≤ 1048576 := by rw [str_size]; exact hb
  by_cases g1 : a = []
  · have s1 : (str a).toList.isEmpty = true := by rw [str_list, g1]; rfl
    have HV : Hid (writeBoxL a b = b) := hide (by unfold writeBoxL; rw [if_pos g1])
    clear g1 ha he hb hm hm1
    go_enter Tryz.func110, Tryz.ntmps110
    go_wp2_with fail
    go_ret
    exact ⟨by rw [HV.out]; rfl, B1.out⟩
  · have s1 : (str a).toList.isEmpty = false := by rw [str_list]; cases a with | nil => exact absurd rfl g1 | cons x r => rfl
    have HV : Hid (writeBoxL a b = (if encodeL a = a then quoteL (encodeL a) else encodeL a) ++ [32, 60] ++ b ++ [62]) := hide (by unfold writeBoxL; rw [if_neg g1])
    obtain ⟨E, hE⟩ : ∃ E, encodeL a = E := ⟨_, rfl⟩
    rw [hE] at CE HV he
    have zq := quoteL_length E
    have zE : (str E).size ≤ 100000000 := by rw [str_size]; exact he
    by_cases g2 : E = a
    · have s3 : ((str E).toList == (str a).toList) = true := by rw [g2]; simp
      have CQ := fun w1 => hide (writeQ_any (str E) w1 (Nat.le_trans zE (by decide)))
      rw [str_toList] at CQ
      rw [if_pos g2] at HV
      have zQ : (str (quoteL E)).size ≤ 200000002 := by rw [str_size]; omega
      obtain ⟨Q, hQ⟩ : ∃ Q, quoteL E = Q := ⟨_, rfl⟩
      rw [hQ] at CQ HV zQ
      have HF : Hid (str Q ++ ⟨#[32, 60]⟩ ++ str b ++ ⟨#[62]⟩ = str (writeBoxL a b)) := hide (by rw [HV.out]; apply ext_list; simp [str])
      clear g1 ha he hb hm hm1 hE g2 zq hQ HV
      go_enter Tryz.func110, Tryz.ntmps110
      go_wp2_with (first
        | (go_at_call 103; refine CE.out.mono ?_; rintro e w2 ⟨rfl, h2⟩; have K2 := hide h2; have k0 := cell_of_row w2 w.heap.size 0 _ _ _ (HK.out w2 h2); have k1 := cell_of_row w2 w.heap.size 1 _ _ _ (HK.out w2 h2); clear h2)
        | (go_at_call 104; refine (CQ _).out.mono ?_; rintro e w3 ⟨rfl, h3⟩; have K3 := hide (K2.out.trans (h3.mono K2.out.size)); have k2 := cell_of_row w3 w.heap.size 0 _ _ _ (HK.out w3 K3.out); have k3 := cell_of_row w3 w.heap.size 1 _ _ _ (HK.out w3 K3.out); clear h3))
      go_ret
      exact ⟨ret_str HF.out, HL.out _ K3.out⟩
    · have s3 : ((str E).toList == (str a).toList) = false := by rw [str_list, str_list]; exact beq_eq_false_iff_ne.2 g2
      rw [if_neg g2] at HV
      have HF : Hid (str E ++ ⟨#[32, 60]⟩ ++ str b ++ ⟨#[62]⟩ = str (writeBoxL a b)) := hide (by rw [HV.out]; apply ext_list; simp [str])
      clear g1 ha he hb hm hm1 hE g2 zq HV
      go_enter Tryz.func110, Tryz.ntmps110
      go_wp2_with (go_at_call 103; refine CE.out.mono ?_; rintro e w2 ⟨rfl, h2⟩; have K2 := hide h2; have k0 := cell_of_row w2 w.heap.size 0 _ _ _ (HK.out w2 h2); have k1 := cell_of_row w2 w.heap.size 1 _ _ _ (HK.out w2 h2); clear h2)
      go_ret
      exact ⟨ret_str HF.out, HL.out _ K2.out⟩
end Go.Proofs.YtcmmbceacjechaaGreatDoor
