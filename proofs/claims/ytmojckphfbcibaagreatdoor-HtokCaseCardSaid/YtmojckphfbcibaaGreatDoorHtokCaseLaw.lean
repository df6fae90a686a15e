/- WALK of the law HtokCase. Written by wip/tools/htoklaws.py. No statement is proved here. Own work of the verifier. -/
import Derived.Test.YtmojckphfbcibaaGreatDoorHtokBackLaw
import Derived.Test.YtmojckphfbcibaaGreatDoorHtokU
namespace Go.Proofs.YtmojckphfbcibaaGreatDoor
open Go.RowKit
set_option linter.unusedVariables false
set_option linter.unusedSimpArgs false
set_option maxRecDepth 100000
theorem take_up {l : List TokG} {k : Nat} {f : TokG} (h : l[k]? = some f) : (l.take (k + 1)).map upG = (l.take k).map upG ++ [upG f] := by
  rw [List.take_add_one, h, List.map_append]; rfl
set_option maxHeartbeats 8000000 in
theorem law_HtokCase (v : Value) (l : List TokG) {w : World} (hl : ToksIn w v l) (hE : EnvX w) :
    Calls Tryz.prog 8 #[v] w fun e w' => e = .returned (.bool true) ∧ Below w.heap.size w w' := by
  have HE := hide hE
  have H0 := hide hl
  have HFEW := hide (few13_any v l w hl)
  obtain ⟨A, c, rfl⟩ := hl.form
  clear hE hl
  cases hf : fewG l with
  | false =>
    rw [hf] at HFEW
    clear hf
    go_enter Tryz.func8, Tryz.ntmps8
    go_wp2_with fail
    refine HFEW.out.mono ?_
    rintro e w0 ⟨rfl, rfl⟩
    go_wp2_with fail
    refine (live13_any _ HE.out).mono ?_
    rintro e wl ⟨rfl, hbl⟩
    have HBL := hide (hbl)
    clear hbl
    go_wp2_with fail
    go_ret
    exact ⟨rfl, HBL.out⟩
  | true =>
    rw [hf] at HFEW
    obtain ⟨hl60, hfit⟩ := fewG_len hf
    have HFIT := hide hfit
    obtain ⟨n, hn⟩ : ∃ n, l.length = n := ⟨_, rfl⟩
    have HNL := hide hn
    rw [hn] at hl60 H0 ⊢
    rw [hn] at HFEW
    have HWL : Hid ((writeG (l.map upG)).length ≤ 5070000) := hide (by
      have := writeG_len (l := l.map upG) (fun p hp => by
        obtain ⟨z, hz, rfl⟩ := List.mem_map.1 hp
        exact fit_up (hfit z hz))
      rw [List.length_map, hn] at this; omega)
    clear hf hfit hn
    go_enter Tryz.func8, Tryz.ntmps8
    go_wp2_with fail
    refine HFEW.out.mono ?_
    rintro e w0 ⟨rfl, rfl⟩
    go_wp2_with fail
    go_loopw [3, 4, 5] (fun wv ov iv wr => ∃ (k : Nat) (wz : Int) (ls : List TokU), k ≤ n ∧ iv = .int .i64 k ∧ wv = .int .i64 wz ∧ Hid (URow w ov ls wr) ∧ Hid (ls.map Prod.fst = (l.take k).map upG) ∧ Hid (cleansB wz (l.drop k) = true → cleansB 0 l = true)) (fun _ _ iv _ => n - (intOf iv).toNat)
    case atStart => exact ⟨0, 0, [], Nat.zero_le _, rfl, rfl, hide (URow.nil _), hide rfl, hide (fun h => h)⟩
    case round =>
      obtain ⟨k, wz, ls, hk, rfl, rfl, HU, HM, HC⟩ := hrel
      have HB := hide HU.out.below
      by_cases hlt : k < n
      · obtain ⟨f, hf⟩ : ∃ f, l[k]? = some f := ⟨_, List.getElem?_eq_getElem (by have := HNL.out; omega)⟩
        obtain ⟨a, d, y, ha, c1, c2, c3, c4, hA⟩ := (H0.out.kept HB.out).at k f hf
        obtain ⟨a0, d0, y0, ha0, _, _, _, c40, hA0⟩ := H0.out.at k f hf
        subst ha
        have hdy : AttrsIn w (.slice d f.2.attrs.length y) f.2.attrs := by
          injection ha0 with ha0
          subst ha0
          have e := (HB.out.cell (World.block_lt_of_cell? _ _ c40)).trans c40
          rw [c4] at e
          injection e with e
          rw [e]; exact hA0
        have HAT := hide hdy
        have HCL := hide (clean13_any f wz d y wr hA (HFIT.out f (List.mem_of_getElem? hf)))
        have hstep := cleans_step (was := wz) hf
        have hzn := (fitT_len (HFIT.out f (List.mem_of_getElem? hf))).1
        obtain ⟨X, hX⟩ : ∃ X, X = str f.2.name := ⟨_, rfl⟩
        obtain ⟨Y, hY⟩ : ∃ X, X = str f.2.text := ⟨_, rfl⟩
        obtain ⟨q, hq⟩ : ∃ q, q = f.2.attrs.length := ⟨_, rfl⟩
        obtain ⟨K, hK⟩ : ∃ K, K = f.1 := ⟨_, rfl⟩
        have hXl : X.data.toList = f.2.name := by rw [hX, str_toList]
        have zX : X.size ≤ 300 := by rw [hX, str_size]; exact hzn
        have HYS : Hid (Y = str f.2.text) := hide hY
        have HKS : Hid (K = f.1) := hide hK
        rw [← hX, ← hY, ← hq, ← hK] at HCL
        rw [← hX] at c2
        rw [← hY] at c3
        rw [← hq] at c4 HAT
        rw [← hK] at c1
        have HK : Hid (∀ w2, Below wr.heap.size wr w2 → w2.cell? (a.add (k * 4)) = some (.int .i64 K) ∧ w2.cell? { block := (a.add (k * 4)).block, off := (a.add (k * 4)).off + 1 } = some (.string X) ∧ w2.cell? { block := (a.add (k * 4)).block, off := (a.add (k * 4)).off + 3 } = some (.string Y) ∧ w2.cell? { block := (a.add (k * 4)).block, off := (a.add (k * 4)).off + 2 } = some (.slice d q y)) :=
          hide fun w2 h => ⟨(h.cell (World.block_lt_of_cell? _ _ c1)).trans c1, (h.cell (World.block_lt_of_cell? _ _ c2)).trans c2, (h.cell (World.block_lt_of_cell? _ _ c3)).trans c3, (h.cell (World.block_lt_of_cell? _ _ c4)).trans c4⟩
        cases hc : cleanB f wz with
        | false =>
          rw [hc] at HCL
          clear hX hY hq hK hA hf hstep hc ha0 c40 hA0 hdy hXl hzn
          go_wp2_with fail
          refine HCL.out.mono ?_
          rintro e w2 ⟨rfl, hb2⟩
          have HB2 := hide (HB.out.trans (hb2.mono HB.out.size))
          have HE2 := hide (HE.out.kept HB2.out)
          clear hb2
          go_wp2_with fail
          refine (live13_any _ HE2.out).mono ?_
          rintro e wl ⟨rfl, hbl⟩
          have HBL := hide (HB2.out.trans (hbl.mono HB2.out.size))
          clear hbl
          go_wp2_with fail
          go_ret
          exact ⟨rfl, HBL.out⟩
        | true =>
          rw [hc] at HCL
          have HC2 : Hid (cleansB K (l.drop (k + 1)) = true → cleansB 0 l = true) := hide fun h => HC.out (by rw [hstep, hc, ← hK, h]; rfl)
          have HM2 : Hid (ls.map Prod.fst ++ [upG f] = (l.take (k + 1)).map upG) := hide (by rw [take_up hf, HM.out])
          have HXL := hide hXl
          have hlk : ls.length ≤ 60 := by
            have := congrArg List.length HM.out
            rw [List.length_map, List.length_map, List.length_take] at this
            omega
          obtain ⟨AO, co, rfl⟩ := HU.out.slice_len
          clear hX hY hq hK hA hf hstep hc ha0 c40 hA0 hdy hXl hzn c1 c2 c3 c4
          obtain ⟨e1, e2, e3, e4⟩ := HK.out wr (Below.refl _ _)
          go_wp2_with fail
          refine HCL.out.mono ?_
          rintro e w2 ⟨rfl, hb2⟩
          have HU2 := hide (HU.out.kept hb2)
          obtain ⟨f1, f2, f3, f4⟩ := HK.out w2 hb2
          clear hb2 e1 e2 e3 e4
          have HBOX := hide (alloc_new_block w2 (.cells #[.int .i64 K, .string X, .slice d q y, .string Y] 32))
          obtain ⟨wb, hwb⟩ : ∃ wb, wb = w2.alloc (.cells #[.int .i64 K, .string X, .slice d q y, .string Y] 32) := ⟨_, rfl⟩
          have HUB : Hid (URow w (.slice AO ls.length co) ls wb) := hide (by rw [hwb]; exact HU2.out.kept (below_one' _ _))
          have hwbs : wb.heap.size = w2.heap.size + 1 := by rw [hwb, World.size_alloc]
          have HZB := hide hwbs
          clear hwbs
          go_wp2_with (refine wpList_bytes rfl _ rfl X rfl ?_; intro cap w3 ha3; have HA3 := hide ha3; clear ha3)
          rw [← hwb] at HA3 HBOX
          have HA4 : Hid (Arr wb.heap.size (w2.heap.size + 1) X.data.toList wb w3) := hide (by rw [← HZB.out]; exact HA3.out)
          clear HA3 hwb f1 f2 f3 f4
          go_loopw [8] (fun jv wr => ∃ j : Nat, j ≤ X.size ∧ jv = .int .i64 j ∧ Hid (Arr wb.heap.size (w2.heap.size + 1) (upAt X.data.toList j) wb wr)) (fun jv _ => X.size - (intOf jv).toNat)
          case atStart => exact ⟨0, Nat.zero_le _, rfl, hide (by rw [upAt_zero]; exact HA4.out)⟩
          case round =>
            obtain ⟨j, hj, rfl, HAR⟩ := hrel
            have ha := HAR.out
            by_cases hjl : j < X.size
            · have hl : j < X.data.toList.length := by rw [toList_length]; exact hjl
              have hl' : j < (upAt X.data.toList j).length := by rw [upAt_length]; exact hl
              have hcell := ha.cell j hl'
              have hfree := ha.free j hl'
              rw [upAt_get _ _ hl hl'] at hcell
              have hset := upAt_set X.data.toList j hl
              have hcase := upC_case X.data.toList[j]
              have hsame := upAt_same X.data.toList j hl
              have HST := fun (c : UInt8) (n : Int) (hn : n = c.toNat) => hide (ha.set j hl' c n hn)
              generalize X.data.toList[j] = cc at hcell hset hcase hsame
              have HSET := hide hset
              clear ha hset
              rcases hcase with ⟨g1, g2, g3⟩ | ⟨g1, g2⟩
              · have t1 : decide ((97 : Int) ≤ (cc.toNat : Int)) = true := decide_eq_true (by omega)
                have t2 : decide ((cc.toNat : Int) ≤ 122) = true := decide_eq_true (by omega)
                clear hsame
                go_wp2_with fail
                go_roundw
                case rel => exact ⟨j + 1, by omega, by go_num, hide (by rw [← HSET.out]; exact (HST (upC cc) _ (by first | omega | (simp; omega))).out)⟩
                case measure => simp [intOf]; omega
              · have HS := hide (hsame g2)
                clear hsame g2
                rcases g1 with g1 | ⟨g0, g1⟩
                · have t1 : decide ((97 : Int) ≤ (cc.toNat : Int)) = false := decide_eq_false (by omega)
                  go_wp2_with fail
                  go_roundw
                  case rel => exact ⟨j + 1, by omega, by go_num, hide (by rw [← HS.out]; exact HAR.out)⟩
                  case measure => simp [intOf]; omega
                · have t1 : decide ((97 : Int) ≤ (cc.toNat : Int)) = true := decide_eq_true (by omega)
                  have t2 : decide ((cc.toNat : Int) ≤ 122) = false := decide_eq_false (by omega)
                  go_wp2_with fail
                  go_roundw
                  case rel => exact ⟨j + 1, by omega, by go_num, hide (by rw [← HS.out]; exact HAR.out)⟩
                  case measure => simp [intOf]; omega
            · have hcv := ha.convert cap
              rw [upAt_length, toList_length, upAt_end _ _ (by rw [toList_length]; omega), HXL.out] at hcv
              have hbx : wr.heap[w2.heap.size]? = some (.cells #[.int .i64 K, .string X, .slice d q y, .string Y] 32 (0, 0)) := (ha.below.block _ (by rw [HZB.out]; exact Nat.lt_succ_self _)).trans HBOX.out
              have hb1 : wr.cell? ⟨w2.heap.size, 1, none⟩ = some (.string X) := by rw [Lib.cell_of_heap hbx]; rfl
              have hf1 : wr.frozen? ⟨w2.heap.size, 1, none⟩ = false := Lib.frozen_of_heap hbx 1
              obtain ⟨UX, hUX⟩ : ∃ UX, UX = str (upB f.2.name) := ⟨_, rfl⟩
              rw [← hUX] at hcv
              have hne := HU2.out.own_ne
              have hge : w.heap.size ≤ w2.heap.size := HU2.out.below.size
              have HU4 := hide ((HUB.out.kept ha.below).set hge hne 1 (.string UX))
              have hws : ∀ i : Nat, i ≠ 1 → (wr.setCell ⟨w2.heap.size, 1, none⟩ (.string UX)).cell? ⟨w2.heap.size, i, none⟩ = wr.cell? ⟨w2.heap.size, i, none⟩ := fun i hi => World.cell?_setCell_other _ _ _ _ (ne_off (fun e => hi e.symm))
              have x0 : (wr.setCell ⟨w2.heap.size, 1, none⟩ (.string UX)).cell? ⟨w2.heap.size, 0, none⟩ = some (.int .i64 K) := by rw [hws 0 (by decide), Lib.cell_of_heap hbx]; rfl
              have x1 : (wr.setCell ⟨w2.heap.size, 1, none⟩ (.string UX)).cell? ⟨w2.heap.size, 1, none⟩ = some (.string UX) := World.cell?_setCell_same _ _ _ hb1
              have x2 : (wr.setCell ⟨w2.heap.size, 1, none⟩ (.string UX)).cell? ⟨w2.heap.size, 2, none⟩ = some (.slice d q y) := by rw [hws 2 (by decide), Lib.cell_of_heap hbx]; rfl
              have x3 : (wr.setCell ⟨w2.heap.size, 1, none⟩ (.string UX)).cell? ⟨w2.heap.size, 3, none⟩ = some (.string Y) := by rw [hws 3 (by decide), Lib.cell_of_heap hbx]; rfl
              have HUX := hide hUX
              clear ha hbx hws hUX hne hge HUB HA4 HBOX HAR
              go_wp2_with (at_builtin; go_must (refine wpList_utoks rfl _ _ rfl w _ ls rfl (upG f) d q y (HU4.out.kept (below_one' _ _)) HAT.out ⟨wr.heap.size, 0, none⟩ (by first | rfl | simp [World.setCell]) (by rw [Addr.add_lit, World.cell?_alloc_at _ _ _ _ (by simp [World.setCell])]; show some (Value.int .i64 K) = some (Value.int .i64 f.1); rw [HKS.out]) (by rw [Addr.add_lit, World.cell?_alloc_at _ _ _ _ (by simp [World.setCell])]; show some (Value.string UX) = some (Value.string (str (upB f.2.name))); rw [HUX.out]) (by rw [Addr.add_lit, World.cell?_alloc_at _ _ _ _ (by simp [World.setCell])]; rfl) (by rw [Addr.add_lit, World.cell?_alloc_at _ _ _ _ (by simp [World.setCell])]; show some (Value.string Y) = some (Value.string (str f.2.text)); rw [HYS.out]) (by omega) ?_; intro v5 w5 hu5; have HU5 := hide hu5; clear hu5))
              go_roundw
              case rel => exact ⟨k + 1, K, ls ++ [(upG f, .slice d q y)], by omega, by go_num, rfl, HU5, hide (by rw [List.map_append]; exact HM2.out), HC2⟩
              case measure => simp [intOf]; omega
      · have hc0 : cleansB 0 l = true := HC.out (by rw [List.drop_eq_nil_of_le (by have := HNL.out; omega)]; rfl)
        have hlk : ls.length = n := by
          have := congrArg List.length HM.out
          rw [List.length_map, List.length_map, List.length_take, HNL.out] at this
          omega
        have hml : ls.map Prod.fst = l.map upG := by rw [HM.out, List.take_of_length_le (by have := HNL.out; omega)]
        have HSB := hide (scan_large hc0)
        have HKN := hide (tokKey_toL (scan_back hc0).2)
        have HE2 := hide (HE.out.kept HB.out)
        obtain ⟨AO, co, rfl⟩ := HU.out.slice_len
        have HT := hide HU.out.in
        rw [hml] at HT
        have HW := hide (write_any13 _ (l.map upG) wr HT.out (by rw [List.length_map, HNL.out]; omega) (fun p hp => by
          obtain ⟨z, hz, rfl⟩ := List.mem_map.1 hp
          exact fit_up (HFIT.out z hz)) HE2.out)
        obtain ⟨S, hS⟩ : ∃ S, S = str (writeG (l.map upG)) := ⟨_, rfl⟩
        have zS : S.size ≤ 5070000 := by rw [hS, str_size]; exact HWL.out
        have HSL : Hid (S.data.toList = writeG (l.map upG)) := hide (by rw [hS, str_toList])
        rw [← hS] at HW
        clear hc0 hS HC HM hml hlk HT
        go_wp2_with fail
        refine HW.out.mono ?_
        rintro e w2 ⟨rfl, hb2⟩
        have HB2 := hide (HB.out.trans (hb2.mono HB.out.size))
        have HE3 := hide (HE.out.kept HB2.out)
        clear hb2
        obtain ⟨hE1, m, hm⟩ := HE3.out
        have HSC := hide (scan_any S m w2 (by omega) hE1 hm)
        clear hE1 hm
        go_wp2_with fail
        refine HSC.out.mono ?_
        rintro e w3 ⟨v, vs, rfl, ht, hm3, hb3⟩
        obtain ⟨A3, c3, rfl⟩ := ht.slice_len
        have HB3 := hide (HB2.out.trans (hb3.mono HB2.out.size))
        have HE4 := hide (HE.out.kept HB3.out)
        have hv : vs.map Prod.fst = l.map toL := by rw [hm3, HSL.out, HSB.out]
        have HT3 := hide ht.in
        rw [hv] at HT3
        have hvl : vs.length = n := by
          have := congrArg List.length hv
          rw [List.length_map, List.length_map, HNL.out] at this
          exact this
        rw [hvl] at HT3 ⊢
        have HT4 := hide (H0.out.kept HB3.out)
        have HSM := hide (same13_any _ _ _ _ w3 HT3.out HT4.out (by rw [List.length_map, List.length_map, HNL.out]; omega) (fun p hp => by
          obtain ⟨z, hz, rfl⟩ := List.mem_map.1 hp
          obtain ⟨x, hx, rfl⟩ := List.mem_map.1 hz
          exact Nat.le_trans (fitT_len (HFIT.out x hx)).2.2.1 (by decide)))
        rw [decide_eq_true HKN.out] at HSM
        clear ht hm3 hb3 hv hvl
        go_wp2_with fail
        refine HSM.out.mono ?_
        rintro e w4 ⟨rfl, hw4⟩
        have HB4 := hide (HB3.out.trans ((below_of13 hw4).mono HB3.out.size))
        have HE5 := hide (HE.out.kept HB4.out)
        clear hw4
        go_wp2_with fail
        refine (live13_any _ HE5.out).mono ?_
        rintro e wl ⟨rfl, hbl⟩
        have HBL := hide (HB4.out.trans (hbl.mono HB4.out.size))
        clear hbl
        go_wp2_with fail
        go_ret
        exact ⟨rfl, HBL.out⟩
end Go.Proofs.YtmojckphfbcibaaGreatDoor
