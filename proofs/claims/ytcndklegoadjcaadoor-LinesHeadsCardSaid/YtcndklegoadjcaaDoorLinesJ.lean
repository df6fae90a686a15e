/- WALK of lines.joined. No statement is proved here. -/
import Derived.Test.YtcndklegoadjcaaDoorRBuf
namespace Go.Proofs.YtcndklegoadjcaaDoor
open Go.RowKit
set_option linter.unusedVariables false
set_option linter.unusedSimpArgs false
set_option maxRecDepth 100000

theorem join_flat (L : List (List UInt8)) : Lib.join L [] = L.flatten := by
  cases L with
  | nil => rfl
  | cons x r =>
    rw [Lib.join_cons]
    unfold Lib.joinTail
    simp
theorem RRow.form {B : Nat} {v : Value} {ls : List RawV} {w : World} (h : RRow B v ls w) : ∃ A cap, v = .slice A ls.length cap := by
  rcases h.row.2 with ⟨rfl, h0⟩ | ⟨g, cap, cur, rfl, _⟩
  · rw [h0]; exact ⟨_, _, rfl⟩
  · exact ⟨_, _, rfl⟩
theorem RRow.cells {B : Nat} {A : Option Addr} {n cap : Nat} {ls : List RawV} {w : World} (h : RRow B (.slice A n cap) ls w) (k : Nat) (p : RawV) (hk : ls[k]? = some p) :
    ∃ a, A = some a ∧ w.cell? (a.add (k * 2)) = some (.string (str p.1.1)) ∧ w.cell? (a.add (k * 2 + 1)) = some p.2 := by
  obtain ⟨e1, e2⟩ := rawVals_at hk
  have hlt := (List.getElem?_eq_some_iff.1 hk).1
  have h1 := h.row
  rcases h.row.2 with ⟨_, h0⟩ | ⟨g, cap', cur, hv, _⟩
  · omega
  · injection hv with hv _ _
    subst hv
    exact ⟨⟨g, 0, none⟩, rfl, h1.cells (g := g) rfl _ _ e1, h1.cells (g := g) rfl _ _ e2⟩
theorem RRow.lines {B : Nat} {v : Value} {ls : List RawV} {w : World} (h : RRow B v ls w) (k : Nat) (p : RawV) (hk : ls[k]? = some p) :
    ∃ g cap, p.2 = .slice (some ⟨g, 0, none⟩) (p.1.2.map str).length cap ∧ g < w.heap.size ∧ (p.1.2.map str).length ≤ cap ∧ cap ≤ maxLen ∧ ∀ (i : Nat) x, (p.1.2.map str)[i]? = some x → w.cell? ⟨g, 0 + i, none⟩ = some (.string x) := by
  obtain ⟨h1, h2⟩ := h.each k p hk
  rcases h1.2 with ⟨e, _⟩ | ⟨g, cap, cur, e, hg, hh, hc, hm, _⟩
  · rw [e] at h2; exact absurd rfl h2
  · refine ⟨g, cap, by rw [List.length_map]; exact e, lt_of_block hh, by rw [List.length_map]; exact hc, hm, fun i x hi => ?_⟩
    have hlt := (List.getElem?_eq_some_iff.1 hi).1
    rw [e] at h1
    rw [List.length_map] at hlt
    rw [Nat.zero_add, h1.cellAt i (by omega)]
    unfold lineVals strVals
    rw [List.getElem?_map, hi]; rfl
/-- what joined hands back -/
def outL (ls : List RawV) : List FieldL := ls.map fun p => (p.1.1, trimT p.1.2.flatten)
theorem outL_snoc {ls : List RawV} {k : Nat} {p : RawV} (h : ls[k]? = some p) : outL (ls.take (k + 1)) = outL (ls.take k) ++ [(p.1.1, trimT p.1.2.flatten)] := by
  unfold outL; rw [List.take_add_one, h]; simp
set_option maxHeartbeats 2000000 in
theorem joined_any (B : Nat) (v : Value) (ls : List RawV) (w : World) (h : RRow B v ls w) (hn : ls.length ≤ 1048576) (hz : ∀ p ∈ ls, p.1.2.flatten.length ≤ 70368744177664 ∧ p.1.2.length ≤ 70368744177664) :
    Calls Tryd.prog 23 #[v] w fun e w' => ∃ v', e = .returned v' ∧ FBuf w.heap.size v' (outL ls) w w' := by
  obtain ⟨A, cap, rfl⟩ := h.form
  have HR := hide h
  have HZ := hide hz
  clear h hz
  go_enter Tryd.func23, Tryd.ntmps23
  go_wp2_with fail
  go_loopw [3, 9] (fun o i wr => ∃ k : Nat, k ≤ ls.length ∧ i = .int .i64 k ∧ Hid (FBuf w.heap.size o (outL (ls.take k)) w wr)) (fun _ i _ => ls.length - (intOf i).toNat)
  case atStart => exact ⟨0, Nat.zero_le _, rfl, hide (FBuf.nil (Below.refl _ _) (Nat.le_refl _))⟩
  case round =>
    obtain ⟨k, hk, rfl, HB⟩ := hrel
    by_cases hlt : k < ls.length
    · obtain ⟨p, hp⟩ : ∃ p, ls[k]? = some p := ⟨_, List.getElem?_eq_getElem hlt⟩
      have hr := HR.out.kept HB.out.below
      obtain ⟨a, ha, hc1, hc2⟩ := hr.cells k p hp
      obtain ⟨g, c, e2, hg, hlc, hcm, hcell⟩ := hr.lines k p hp
      rw [e2] at hc2
      subst ha
      obtain ⟨hz1, hz2⟩ := HZ.out p (List.mem_of_getElem? hp)
      have e3 : ({ block := (a.add (k * 2)).block, off := (a.add (k * 2)).off + 1 } : Addr) = a.add (k * 2 + 1) := by rw [← Addr.add_add]; rfl
      have hc3 : wr.cell? { block := (a.add (k * 2)).block, off := (a.add (k * 2)).off + 1 } = some (.slice (some ⟨g, 0, none⟩) (p.1.2.map str).length c) := by rw [e3]; exact hc2
      obtain ⟨L, hL⟩ : ∃ L, L = p.1.2.map str := ⟨_, rfl⟩
      have hLm : L.map (·.data.toList) = p.1.2 := by rw [hL, List.map_map]; exact (List.map_congr_left (fun x _ => str_toList x)).trans (List.map_id _)
      have HLM := hide hLm
      have HLL : Hid (L.length ≤ 70368744177664) := hide (by rw [hL, List.length_map]; exact hz2)
      rw [← hL] at hc3 hlc hcell
      have HCELL := hide hcell
      have HFL : Hid ((Lib.join (L.map (·.data.toList)) (⟨#[]⟩ : ByteArray).data.toList) = p.1.2.flatten) := hide (by rw [hLm]; exact join_flat _)
      obtain ⟨X, hX⟩ : ∃ X, X = str p.1.2.flatten := ⟨_, rfl⟩
      have HX := hide hX
      have hXs : X.size ≤ 70368744177664 := by rw [hX, str_size]; exact hz1
      have HZ1 := hide hz1
      have HXS : Hid (X.size ≤ maxLen) := hide (by unfold maxLen; omega)
      obtain ⟨T, hT⟩ : ∃ T, T = trimT p.1.2.flatten := ⟨_, rfl⟩
      have HT : Hid (str (trimT X.data.toList) = str T) := hide (by rw [hT, hX, str_toList])
      have HO : Hid (outL (ls.take (k + 1)) = outL (ls.take k) ++ [(p.1.1, T)]) := hide (by rw [hT]; exact outL_snoc hp)
      have HG := hide hg
      have HLC := hide hlc
      obtain ⟨N, hN⟩ : ∃ N, N = str p.1.1 := ⟨_, rfl⟩
      have HN := hide hN
      rw [← hN] at hc1
      have HOL : Hid ((outL (ls.take k)).length + 1 ≤ 4398046511104) := hide (by
        unfold outL; rw [List.length_map, List.length_take]; omega)
      have hcb0 : (wr.alloc (.cells #[.string N, .slice (some ⟨g, 0, none⟩) L.length c] 50)).cell? { block := wr.heap.size, off := 0 } = some (.string N) := by rw [World.cell?_alloc_at _ _ _ _ rfl]; rfl
      have hcb : (wr.alloc (.cells #[.string N, .slice (some ⟨g, 0, none⟩) L.length c] 50)).cell? { block := wr.heap.size, off := 1 } = some (.slice (some ⟨g, 0, none⟩) L.length c) := by rw [World.cell?_alloc_at _ _ _ _ rfl]; rfl
      have HC0 := hide hcb0
      clear e3 hp hr e2 hc2 hz1 hz2 hL hLm hX hXs hT hcell hg hlc hcm hN hcb0
      go_wp2_with fail
      refine (Tryd.strings_Join g 0 c L ⟨#[]⟩ _ ?_ ?_ ?_ HLC.out ?_).mono ?_
      · intro j x hx
        exact (((Below.refl wr.heap.size wr).alloc (Nat.le_refl _) _).cell (by exact HG.out)).trans (HCELL.out j x hx)
      · rw [World.size_alloc]; exact Nat.lt_succ_of_lt HG.out
      · exact Nat.le_trans HLL.out (by decide)
      · rw [show (⟨#[]⟩ : ByteArray).data.toList = [] from rfl, HFL.out]
        exact Nat.le_trans HZ1.out (by decide)
      rintro e w2 ⟨rfl, hb2⟩
      rw [show (⟨(Lib.join (L.map (·.data.toList)) (⟨#[]⟩ : ByteArray).data.toList).toArray⟩ : ByteArray) = X from by rw [show (⟨#[]⟩ : ByteArray).data.toList = [] from rfl, HFL.out, HX.out]; rfl]
      have HB2 := hide ((HB.out.alloc _).kept hb2)
      have hc0b : w2.cell? { block := wr.heap.size, off := 0 } = some (.string N) := (hb2.cell (by rw [World.size_alloc]; exact Nat.lt_succ_self _)).trans HC0.out
      have hlt2 : wr.heap.size < w2.heap.size := by have := hb2.size; rw [World.size_alloc] at this; omega
      have HLT2 := hide hlt2
      clear hb2 hlt2
      go_wp2_with fail
      refine (trimT_any X _ HXS.out).mono ?_
      rintro e w3 ⟨rfl, hb3⟩
      rw [HT.out]
      have HB3 := hide (HB2.out.kept hb3)
      have hc0c : w3.cell? { block := wr.heap.size, off := 0 } = some (.string N) := (hb3.cell (by exact HLT2.out)).trans hc0b
      clear hb3 hc0b
      go_wp2_with (refine wpList_fields rfl _ _ rfl w.heap.size u3 (outL (ls.take k)) rfl w (p.1.1, T) (HB3.out.alloc _) ⟨w3.heap.size, 0, none⟩ rfl (by rw [HN.out]; exact (two_new w3 _ _ _).1) (two_new w3 _ _ _).2 HOL.out ?_; intro v4 w4 hb4; have HB4 := hide hb4; clear hb4)
      go_roundw
      case rel => exact ⟨k + 1, by omega, by go_num, hide (by rw [HO.out]; exact HB4.out)⟩
      case measure => simp [intOf]; omega
    · have HD : Hid (FBuf w.heap.size u3 (outL ls) w wr) := hide (by
        have := HB.out
        rwa [List.take_of_length_le (by omega)] at this)
      go_wp2_with fail
      go_ret
      exact ⟨_, rfl, HD.out⟩
end Go.Proofs.YtcndklegoadjcaaDoor
