/- WALK of the law HtokBack. Written by wip/tools/htoklaws.py. No statement is proved here. Own work of the verifier. -/
import Derived.Test.YtmojckphfbcibaaGreatDoorRef13L
import Derived.Test.YtmojckphfbcibaaGreatDoorHtokI
import Derived.Test.YtmojckphfbcibaaGreatDoorRef13F
namespace Go.Proofs.YtmojckphfbcibaaGreatDoor
open Go.RowKit
set_option linter.unusedVariables false
set_option linter.unusedSimpArgs false
set_option maxRecDepth 100000
theorem cleans_step {l : List TokG} {k : Nat} {f : TokG} {was : Int} (h : l[k]? = some f) : cleansB was (l.drop k) = (cleanB f was && cleansB f.1 (l.drop (k + 1))) := by
  obtain ⟨hlt, rfl⟩ := List.getElem?_eq_some_iff.1 h
  rw [List.drop_eq_getElem_cons hlt]; rfl
set_option maxHeartbeats 8000000 in
theorem law_HtokBack (v : Value) (l : List TokG) {w : World} (hl : ToksIn w v l) (hE : EnvX w) :
    Calls Tryz.prog 5 #[v] w fun e w' => e = .returned (.bool true) ∧ Below w.heap.size w w' := by
  have HE := hide hE
  have H0 := hide hl
  have HFEW := hide (few13_any v l w hl)
  obtain ⟨A, c, rfl⟩ := hl.form
  clear hE hl
  cases hf : fewG l with
  | false =>
    rw [hf] at HFEW
    clear hf
    go_enter Tryz.func5, Tryz.ntmps5
    go_wp2_with fail
    refine HFEW.out.mono ?_
    rintro e w0 ⟨rfl, rfl⟩
    go_wp2_with fail
    refine (live13_any _ HE.out).mono ?_
    rintro e wl ⟨rfl, hbl⟩
    have HBL := hide (hbl)
    clear hbl
    go_wp2_with fail
    go_ret
    exact ⟨rfl, HBL.out⟩
  | true =>
    rw [hf] at HFEW
    obtain ⟨hl60, hfit⟩ := fewG_len hf
    have HFIT := hide hfit
    obtain ⟨n, hn⟩ : ∃ n, l.length = n := ⟨_, rfl⟩
    have HNL := hide hn
    rw [hn] at hl60 H0 ⊢
    rw [hn] at HFEW
    have HWL : Hid ((writeG l).length ≤ 5070000) := hide (by
      have := writeG_len hfit
      rw [hn] at this; omega)
    clear hf hfit hn
    go_enter Tryz.func5, Tryz.ntmps5
    go_wp2_with fail
    refine HFEW.out.mono ?_
    rintro e w0 ⟨rfl, rfl⟩
    go_wp2_with fail
    go_loopw [3, 4] (fun wv iv wr => ∃ (k : Nat) (wz : Int), k ≤ n ∧ iv = .int .i64 k ∧ wv = .int .i64 wz ∧ Hid (Below w.heap.size w wr) ∧ Hid (cleansB wz (l.drop k) = true → cleansB 0 l = true)) (fun _ iv _ => n - (intOf iv).toNat)
    case atStart => exact ⟨0, 0, Nat.zero_le _, rfl, rfl, hide (Below.refl _ _), hide (fun h => h)⟩
    case round =>
      obtain ⟨k, wz, hk, rfl, rfl, HB, HC⟩ := hrel
      by_cases hlt : k < n
      · obtain ⟨f, hf⟩ : ∃ f, l[k]? = some f := ⟨_, List.getElem?_eq_getElem (by have := HNL.out; omega)⟩
        obtain ⟨a, d, y, ha, c1, c2, c3, c4, hA⟩ := (H0.out.kept HB.out).at k f hf
        subst ha
        have HCL := hide (clean13_any f wz d y wr hA (HFIT.out f (List.mem_of_getElem? hf)))
        have hstep := cleans_step (was := wz) hf
        have HK : Hid (∀ w2, Below wr.heap.size wr w2 → w2.cell? (a.add (k * 4)) = some (.int .i64 f.1)) := hide fun w2 h => (h.cell (World.block_lt_of_cell? _ _ c1)).trans c1
        obtain ⟨X, hX⟩ : ∃ X, X = str f.2.name := ⟨_, rfl⟩
        obtain ⟨Y, hY⟩ : ∃ X, X = str f.2.text := ⟨_, rfl⟩
        obtain ⟨q, hq⟩ : ∃ q, q = f.2.attrs.length := ⟨_, rfl⟩
        obtain ⟨K, hK⟩ : ∃ K, K = f.1 := ⟨_, rfl⟩
        rw [← hX, ← hY, ← hq, ← hK] at HCL
        rw [← hX] at c2
        rw [← hY] at c3
        rw [← hq] at c4
        rw [← hK] at c1 HK
        cases hc : cleanB f wz with
        | false =>
          rw [hc] at HCL
          clear hX hY hq hK hA hf hstep hc
          go_wp2_with fail
          refine HCL.out.mono ?_
          rintro e w2 ⟨rfl, hb2⟩
          have HB2 := hide (HB.out.trans (hb2.mono HB.out.size))
          have HE2 := hide (HE.out.kept HB2.out)
          clear hb2
          go_wp2_with fail
          refine (live13_any _ HE2.out).mono ?_
          rintro e wl ⟨rfl, hbl⟩
          have HBL := hide (HB2.out.trans (hbl.mono HB2.out.size))
          clear hbl
          go_wp2_with fail
          go_ret
          exact ⟨rfl, HBL.out⟩
        | true =>
          rw [hc] at HCL
          have HC2 : Hid (cleansB K (l.drop (k + 1)) = true → cleansB 0 l = true) := hide fun h => HC.out (by rw [hstep, hc, ← hK, h]; rfl)
          clear hX hY hq hK hA hf hstep hc
          go_wp2_with fail
          refine HCL.out.mono ?_
          rintro e w2 ⟨rfl, hb2⟩
          have HB2 := hide (HB.out.trans (hb2.mono HB.out.size))
          have k2 := HK.out w2 hb2
          clear hb2
          go_wp2_with fail
          go_roundw
          case rel => exact ⟨k + 1, K, by omega, by go_num, rfl, HB2, HC2⟩
          case measure => simp [intOf]; omega
      · have hc0 : cleansB 0 l = true := HC.out (by rw [List.drop_eq_nil_of_le (by have := HNL.out; omega)]; rfl)
        obtain ⟨hsc, hkn⟩ := scan_back hc0
        have HSB := hide hsc
        have HKN := hide (tokKey_toL hkn)
        have HE2 := hide (HE.out.kept HB.out)
        have HT := hide (H0.out.kept HB.out)
        have HW := hide (write_any13 _ l wr HT.out (by rw [HNL.out]; omega) HFIT.out HE2.out)
        obtain ⟨S, hS⟩ : ∃ S, S = str (writeG l) := ⟨_, rfl⟩
        have zS : S.size ≤ 5070000 := by rw [hS, str_size]; exact HWL.out
        have HSL : Hid (S.data.toList = writeG l) := hide (by rw [hS, str_toList])
        rw [← hS] at HW
        clear hc0 hsc hkn hS HC
        go_wp2_with fail
        refine HW.out.mono ?_
        rintro e w2 ⟨rfl, hb2⟩
        have HB2 := hide (HB.out.trans (hb2.mono HB.out.size))
        have HE3 := hide (HE.out.kept HB2.out)
        clear hb2
        obtain ⟨hE1, m, hm⟩ := HE3.out
        have HSC := hide (scan_any S m w2 (by omega) hE1 hm)
        clear hE1 hm
        go_wp2_with fail
        refine HSC.out.mono ?_
        rintro e w3 ⟨v, vs, rfl, ht, hm3, hb3⟩
        obtain ⟨A3, c3, rfl⟩ := ht.slice_len
        have HB3 := hide (HB2.out.trans (hb3.mono HB2.out.size))
        have HE4 := hide (HE.out.kept HB3.out)
        have hv : vs.map Prod.fst = l.map toL := by rw [hm3, HSL.out, HSB.out]
        have HT3 := hide ht.in
        rw [hv] at HT3
        have hvl : vs.length = n := by
          have := congrArg List.length hv
          rw [List.length_map, List.length_map, HNL.out] at this
          exact this
        rw [hvl] at HT3 ⊢
        have HT4 := hide (H0.out.kept HB3.out)
        have HSM := hide (same13_any _ _ _ _ w3 HT3.out HT4.out (by rw [List.length_map, List.length_map, HNL.out]; omega) (fun p hp => by
          obtain ⟨z, hz, rfl⟩ := List.mem_map.1 hp
          obtain ⟨x, hx, rfl⟩ := List.mem_map.1 hz
          exact Nat.le_trans (fitT_len (HFIT.out x hx)).2.2.1 (by decide)))
        rw [decide_eq_true HKN.out] at HSM
        clear ht hm3 hb3 hv hvl
        go_wp2_with fail
        refine HSM.out.mono ?_
        rintro e w4 ⟨rfl, hw4⟩
        have HB4 := hide (HB3.out.trans ((below_of13 hw4).mono HB3.out.size))
        have HE5 := hide (HE.out.kept HB4.out)
        clear hw4
        go_wp2_with fail
        refine (live13_any _ HE5.out).mono ?_
        rintro e wl ⟨rfl, hbl⟩
        have HBL := hide (HB4.out.trans (hbl.mono HB4.out.size))
        clear hbl
        go_wp2_with fail
        go_ret
        exact ⟨rfl, HBL.out⟩
end Go.Proofs.YtmojckphfbcibaaGreatDoor
