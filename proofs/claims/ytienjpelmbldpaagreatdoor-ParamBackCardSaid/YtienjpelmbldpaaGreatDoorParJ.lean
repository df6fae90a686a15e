/- WALK of param.readRaws. No statement is proved here. -/
import Derived.Test.YtienjpelmbldpaaGreatDoorBaseO
namespace Go.Proofs.YtienjpelmbldpaaGreatDoor
open Go.RowKit Go.Maps Go.WideShapes Go.WideMaps
set_option linter.unusedVariables false
set_option linter.unusedSimpArgs false
set_option maxRecDepth 100000
/-- m[s] = c, of a literal -/
theorem wpList_bm_insert {ops : Array Oper} {rest : List Oper} {o : Oper} {a : Act} {Q : Exit → Act → World → Prop} {w : World} (hg : o.guard = none) (m x v : Operand) (hop : o.op = Op.insert 48 m x v)
    (b n : Nat) (f : List UInt8 → Option Bool) (hm : a.eval m = .map (some b)) (h : BMap w b n f) (hn : n < maxLen) (s : ByteArray) (hs : s.size ≤ maxLen) (c : Bool)
    (hx : a.eval x = .string s) (hv : a.eval v = .bool c)
    (hK : ∀ w', BMap w' b (n + 1) (putF f s.data.toList c) → Turned b w w' → wpList Tryz.prog ops Q rest (a.put o.dst undef) w') : wpList Tryz.prog ops Q (o :: rest) a w := by
  obtain ⟨w', hrun, r1, r2⟩ := h.put hn s c hs
  refine wpList_plain hg fun K' hK' => ?_
  unfold Oper.wp
  simp [execOp, hop, hm, hx, hv, hrun, Result.andThen]
  exact hK' _ _ (hK w' r1 r2)
def rawW (w : World) : World := (((w.alloc (.cells #[.slice none 0 0, .map none] 43)).alloc (.map #[] 0)).alloc (.cells #[.slice none 0 0, .map (some (w.heap.size + 1))] 43)).alloc (.map #[] 0)
theorem rawW_at (w : World) : RawAt w.heap.size w w.heap.size (w.heap.size + 1 + 1) (w.heap.size + 1) (w.heap.size + 1 + 1 + 1) 0 ([], fun _ => none, fun _ => none) (rawW w) := by
  have z1 : (w.alloc (.cells #[.slice none 0 0, .map none] 43)).heap.size = w.heap.size + 1 := World.size_alloc ..
  obtain ⟨w1, hw1⟩ : ∃ w1, w1 = w.alloc (.cells #[.slice none 0 0, .map none] 43) := ⟨_, rfl⟩
  obtain ⟨w2, hw2⟩ : ∃ w2, w2 = w1.alloc (.map #[] 0) := ⟨_, rfl⟩
  obtain ⟨w3, hw3⟩ : ∃ w3, w3 = w2.alloc (.cells #[.slice none 0 0, .map (some (w.heap.size + 1))] 43) := ⟨_, rfl⟩
  have e : rawW w = w3.alloc (.map #[] 0) := by rw [hw3, hw2, hw1]; rfl
  rw [← hw1] at z1
  have z2 : w2.heap.size = w.heap.size + 1 + 1 := by rw [hw2, World.size_alloc, z1]
  have z3 : w3.heap.size = w.heap.size + 1 + 1 + 1 := by rw [hw3, World.size_alloc, z2]
  have b1 : Below w.heap.size w w1 := by rw [hw1]; exact (Below.refl _ w).alloc (Nat.le_refl _) _
  have b2 : Below w1.heap.size w1 w2 := by rw [hw2]; exact (Below.refl _ w1).alloc (Nat.le_refl _) _
  have b3 : Below w2.heap.size w2 w3 := by rw [hw3]; exact (Below.refl _ w2).alloc (Nat.le_refl _) _
  have b4 : Below w3.heap.size w3 (rawW w) := by rw [e]; exact (Below.refl _ w3).alloc (Nat.le_refl _) _
  have b04 : Below w.heap.size w (rawW w) := ((b1.trans (b2.mono (by omega))).trans (b3.mono (by omega))).trans (b4.mono (by omega))
  have h1 : w1.heap[w.heap.size]? = some (.cells #[.slice none 0 0, .map none] 43 (0, 0)) := by rw [hw1]; exact heap_alloc_new w _
  have h3 : w3.heap[w.heap.size + 1 + 1]? = some (.cells #[.slice none 0 0, .map (some (w.heap.size + 1))] 43 (0, 0)) := by rw [hw3, ← z2]; exact heap_alloc_new w2 _
  have m2 : TMap w2 (w.heap.size + 1) 0 (fun _ => none) := by rw [hw2, ← z1]; exact TMap.made w1
  have m4 : BMap (rawW w) (w.heap.size + 1 + 1 + 1) 0 (fun _ => none) := by rw [e, ← z3]; exact BMap.made w3
  refine ⟨⟨.slice none 0 0, [], (b4.block _ (by omega)).trans h3, SBuf.nil b04 b04.size, rfl, Nat.le_refl _⟩, ⟨0, Nat.le_refl _, (m2.kept b3).kept b4⟩, ⟨0, by omega, m4⟩, ?_, ⟨Nat.le_refl _, by omega, by omega, by omega, by omega, by omega⟩⟩
  exact (b4.block _ (by omega)).trans ((b3.block _ (by omega)).trans ((b2.block _ (by omega)).trans h1))
theorem rawsL_snoc (l : List (List UInt8)) (p : List UInt8) : rawsL (l ++ [p]) = rawStep (rawsL l) p := by unfold rawsL; rw [List.foldl_append]; rfl
set_option maxHeartbeats 8000000 in
theorem readRaws_any (g o cp : Nat) (ps : List ByteArray) (w : World) (hE : EnvP w) (hps : ∀ j (h : j < ps.length), w.cell? ⟨g, o + j, none⟩ = some (.string ps[j])) (hlen : ps.length ≤ 300000) (hsz : ∀ p ∈ ps, p.size ≤ 1048576) :
    Calls Tryz.prog 20 #[.slice (some ⟨g, o, none⟩) ps.length cp] w fun e w' => ∃ (v : Value) (bm : Nat) (ns : List ByteArray) (n : Nat), e = .returned (.agg #[v, .map (some bm)]) ∧ Below w.heap.size w w' ∧ SBuf w.heap.size v ns w w' ∧ TMap w' bm n (rawsL (ps.map fun x => x.data.toList)).2.1 ∧ ns.map (fun x => x.data.toList) = (rawsL (ps.map fun x => x.data.toList)).1 ∧ ns.length ≤ 3 * ps.length ∧ n ≤ 3 * ps.length := by
  have hmm := @run_makeMap Tryz.prog
  have hR0 := rawW_at w
  obtain ⟨w4, hr4, hm4, ht4⟩ := (show BMap (rawW w) (w.heap.size + 1 + 1 + 1) 0 (fun _ => none) by
    obtain ⟨n, hn, h⟩ := hR0.s
    obtain ⟨D, ⟨es, c, hb, F, hs, hd⟩, r⟩ := h
    have z3 : ((((w.alloc (.cells #[.slice none 0 0, .map none] 43)).alloc (.map #[] 0)).alloc (.cells #[.slice none 0 0, .map (some (w.heap.size + 1))] 43))).heap.size = w.heap.size + 1 + 1 + 1 := by rw [World.size_alloc, World.size_alloc, World.size_alloc]
    have := BMap.made (((w.alloc (.cells #[.slice none 0 0, .map none] 43)).alloc (.map #[] 0)).alloc (.cells #[.slice none 0 0, .map (some (w.heap.size + 1))] 43))
    rw [z3] at this
    exact this).put (by decide) ⟨#[]⟩ true (by decide)
  have HR4 := hide (hR0.putS ht4 hm4 (Nat.le_refl _))
  unfold rawW at hr4
  have HPS := hide hps
  have HSZ := hide hsz
  have HE := hide hE
  clear hR0 hm4 ht4 hps hsz hE
  go_enter Tryz.func20, Tryz.ntmps20
  go_wp2_with fail
  clear hr4 hmm
  go_loopw [22] (fun iv wr => ∃ k : Nat, k ≤ ps.length ∧ iv = .int .i64 k ∧ Hid (RawAt w.heap.size w w.heap.size (w.heap.size + 1 + 1) (w.heap.size + 1) (w.heap.size + 1 + 1 + 1) (3 * k) (rawsL ((ps.take k).map fun x => x.data.toList)) wr)) (fun iv _ => ps.length - (intOf iv).toNat)
  case atStart => exact ⟨0, Nat.zero_le _, rfl, HR4⟩
  case round =>
    obtain ⟨k, hk, rfl, HR⟩ := hrel
    by_cases hlt : k < ps.length
    · have hBw := HR.out.below
      have hgl : g < w.heap.size := World.block_lt_of_cell? w _ (HPS.out k hlt)
      have ck : wr.cell? ⟨g, o + k, none⟩ = some (.string ps[k]) := (hBw.cell (p := ⟨g, o + k, none⟩) hgl).trans (HPS.out k hlt)
      have hpz := HSZ.out _ (List.getElem_mem hlt)
      obtain ⟨P, hP⟩ : ∃ P, P = ps[k] := ⟨_, rfl⟩
      rw [← hP] at ck hpz
      generalize hst : rawsL ((ps.take k).map fun x => x.data.toList) = st at HR
      have HNX : Hid (rawsL ((ps.take (k + 1)).map fun x => x.data.toList) = rawStep st P.data.toList) := hide (by
        rw [List.take_add_one, List.getElem?_eq_getElem hlt, List.map_append, Option.toList_some, List.map_singleton, rawsL_snoc, hst, hP])
      obtain ⟨nl, f, sn⟩ := st
      obtain ⟨Al, hAl⟩ : ∃ x, x = beforeC 61 P.data.toList := ⟨_, rfl⟩
      obtain ⟨A, hA⟩ : ∃ x, x = str Al := ⟨_, rfl⟩
      obtain ⟨Bl, hBl⟩ : ∃ x, x = afterC 61 P.data.toList := ⟨_, rfl⟩
      obtain ⟨Bh, hBh⟩ : ∃ x, x = str Bl := ⟨_, rfl⟩
      obtain ⟨RWl, hRWl⟩ : ∃ x, x = tsL Al := ⟨_, rfl⟩
      obtain ⟨RW, hRW⟩ : ∃ x, x = str RWl := ⟨_, rfl⟩
      have hPl := toList_length P
      have zA : A.size ≤ 1048576 := by rw [hA, str_size, hAl]; have := beforeC_le 61 P.data.toList; omega
      have zB : Bh.size ≤ 1048576 := by rw [hBh, str_size, hBl]; have := afterC_length 61 P.data.toList; omega
      have eA : A.data.toList = Al := by rw [hA, str_toList]
      have eB : Bh.data.toList = Bl := by rw [hBh, str_toList]
      have eR : RW.data.toList = RWl := by rw [hRW, str_toList]
      have zR : RW.size ≤ 1048576 := by rw [hRW, str_size, hRWl]; have := tsL_length Al; rw [← eA, toList_length] at this; rw [← eA]; omega
      have HC1 := hide (fun (w : World) => strCut_any P 61 w (by omega))
      simp only [cutV] at HC1
      rw [← hAl, ← hBl, ← hA, ← hBh] at HC1
      have HTS := hide (fun (w : World) => trimSmall_any A w zA)
      rw [eA, ← hRWl, ← hRW] at HTS
      have HZR : Hid (RW.size ≤ maxLen) := hide (by unfold maxLen; omega)
      have HRWL := hide eR
      obtain ⟨X0, hX0⟩ : ∃ X0, X0 = str ((f RWl).getD []) := ⟨_, rfl⟩
      have HX0 := hide hX0.symm
      have tok1 : True := trivial
      have HSTEP : Hid (rawStep (nl, f, sn) P.data.toList = if (f RWl).isSome = true ∨ hasC 61 P.data.toList = false ∨ RWl = [] then (nl, f, sn)
        else if (sn (beforeC 42 RWl)).getD false = true then (nl, putF f RWl (rvL Bl), sn) else (nl ++ [beforeC 42 RWl], putF f RWl (rvL Bl), putF sn (beforeC 42 RWl) true)) := hide (by rw [hRWl, hAl, hBl]; rfl)
      have hre : RW.toList.isEmpty = RWl.isEmpty := by rw [hRW, str_list]
      cases hfs : (f RWl).isSome with
      | true =>
        have HFS := hide hfs
        have HST : Hid (rawStep (nl, f, sn) P.data.toList = (nl, f, sn)) := hide (by rw [HSTEP.out, if_pos (.inl hfs)])
        clear hfs hst hA hAl hBl hBh hRWl hRW hX0 eA eB eR hP
        go_wp2_with (first
          | (go_at_call 41; have _t := tok1; refine (HC1.out _).mono ?_; rintro e w1 ⟨rfl, hb1⟩; have HR1 := hide (HR.out.kept hb1); clear hb1 tok1)
          | (go_at_call 22; refine (HTS.out _).mono ?_; rintro e w2 ⟨rfl, hb2⟩; have HR2 := hide (HR1.out.kept hb2); clear hb2; have c12 := HR2.out.c1; obtain ⟨nm2, hnm2, hm2⟩ := HR2.out.m; have hl := hm2.look_ok RW HZR.out; rw [HRWL.out, HFS.out, HX0.out] at hl; clear hm2))
        go_roundw
        case rel => exact ⟨k + 1, by omega, by go_num, hide (by rw [HNX.out, HST.out]; exact HR2.out.mono.mono.mono)⟩
        case measure => simp [intOf]; omega
      | false =>
        have HFS := hide hfs
        cases hh : hasC 61 P.data.toList with
        | false =>
          rw [hh] at HC1
          have HST : Hid (rawStep (nl, f, sn) P.data.toList = (nl, f, sn)) := hide (by rw [HSTEP.out, if_pos (.inr (.inl hh))])
          clear hfs hst hA hAl hBl hBh hRWl hRW hX0 eA eB eR hP hh
          go_wp2_with (first
            | (go_at_call 41; have _t := tok1; refine (HC1.out _).mono ?_; rintro e w1 ⟨rfl, hb1⟩; have HR1 := hide (HR.out.kept hb1); clear hb1 tok1)
            | (go_at_call 22; refine (HTS.out _).mono ?_; rintro e w2 ⟨rfl, hb2⟩; have HR2 := hide (HR1.out.kept hb2); clear hb2; have c12 := HR2.out.c1; obtain ⟨nm2, hnm2, hm2⟩ := HR2.out.m; have hl := hm2.look_ok RW HZR.out; rw [HRWL.out, HFS.out, HX0.out] at hl; clear hm2))
          go_roundw
          case rel => exact ⟨k + 1, by omega, by go_num, hide (by rw [HNX.out, HST.out]; exact HR2.out.mono.mono.mono)⟩
          case measure => simp [intOf]; omega
        | true =>
          rw [hh] at HC1
          cases he : RWl.isEmpty with
          | true =>
            rw [he] at hre
            have HST : Hid (rawStep (nl, f, sn) P.data.toList = (nl, f, sn)) := hide (by rw [HSTEP.out, if_pos (.inr (.inr (by simpa using he)))])
            clear hfs hst hA hAl hBl hBh hRWl hRW hX0 eA eB eR hP hh he
            go_wp2_with (first
              | (go_at_call 41; have _t := tok1; refine (HC1.out _).mono ?_; rintro e w1 ⟨rfl, hb1⟩; have HR1 := hide (HR.out.kept hb1); clear hb1 tok1)
              | (go_at_call 22; refine (HTS.out _).mono ?_; rintro e w2 ⟨rfl, hb2⟩; have HR2 := hide (HR1.out.kept hb2); clear hb2; have c12 := HR2.out.c1; obtain ⟨nm2, hnm2, hm2⟩ := HR2.out.m; have hl := hm2.look_ok RW HZR.out; rw [HRWL.out, HFS.out, HX0.out] at hl; clear hm2))
            go_roundw
            case rel => exact ⟨k + 1, by omega, by go_num, hide (by rw [HNX.out, HST.out]; exact HR2.out.mono.mono.mono)⟩
            case measure => simp [intOf]; omega
          | false =>
            rw [he] at hre
            have hne : ¬((f RWl).isSome = true ∨ hasC 61 P.data.toList = false ∨ RWl = []) := by
              rintro (e | e | e)
              · rw [hfs] at e; cases e
              · rw [hh] at e; cases e
              · rw [e] at he; cases he
            obtain ⟨V, hV⟩ : ∃ V, V = str (rvL Bl) := ⟨_, rfl⟩
            have eV : V.data.toList = rvL Bl := by rw [hV, str_toList]
            have zV : V.size ≤ 1048576 := by rw [hV, str_size]; have := rvL_length Bl; rw [← eB, toList_length] at this; rw [← eB]; omega
            have HRV := hide (fun (w : World) => rawValue_any Bh w zB)
            rw [eB, ← hV] at HRV
            obtain ⟨NMl, hNMl⟩ : ∃ x, x = beforeC 42 RWl := ⟨_, rfl⟩
            obtain ⟨NM, hNM⟩ : ∃ x, x = str NMl := ⟨_, rfl⟩
            obtain ⟨AF, hAF⟩ : ∃ x, x = str (afterC 42 RWl) := ⟨_, rfl⟩
            have eN : NM.data.toList = NMl := by rw [hNM, str_toList]
            have zN : NM.size ≤ 1048576 := by rw [hNM, str_size, hNMl]; have := beforeC_le 42 RWl; rw [← eR, toList_length] at this; rw [← eR]; omega
            have HC2 := hide (fun (w : World) => strCut_any RW 42 w (by omega))
            simp only [cutV] at HC2
            rw [eR, ← hNMl, ← hNM, ← hAF] at HC2
            have HZV : Hid (V.size ≤ maxLen) := hide (by unfold maxLen; omega)
            have HZN : Hid (NM.size ≤ maxLen) := hide (by unfold maxLen; omega)
            have HEV := hide eV
            have HEN := hide eN
            have HK5 : Hid (3 * k + 3 ≤ 1048576) := hide (by omega)
            generalize hasC 42 RWl = hc2 at HC2
            rw [← hNMl] at HSTEP
            cases hsn : (sn NMl).getD false with
            | true =>
              have HSN := hide hsn
              have HST : Hid (rawStep (nl, f, sn) P.data.toList = (nl, putF f RWl (rvL Bl), sn)) := hide (by rw [HSTEP.out, if_neg hne, if_pos hsn])
              clear hfs hst hA hAl hBl hBh hRWl hRW hX0 eA eB eR hP hh he hne hV eV hNMl hNM hAF eN hsn
              go_wp2_with (first
                | (go_at_call 41; have _t := tok1; refine (HC1.out _).mono ?_; rintro e w1 ⟨rfl, hb1⟩; have HR1 := hide (HR.out.kept hb1); clear hb1 tok1)
                | (go_at_call 22; refine (HTS.out _).mono ?_; rintro e w2 ⟨rfl, hb2⟩; have HR2 := hide (HR1.out.kept hb2); clear hb2; have c12 := HR2.out.c1; obtain ⟨nm2, hnm2, hm2⟩ := HR2.out.m; have hl := hm2.look_ok RW HZR.out; rw [HRWL.out, HFS.out, HX0.out] at hl; clear hm2))
              go_region_with (go_at_call 42; refine (HRV.out _).mono ?_; rintro e w3 ⟨rfl, hb3⟩; have HR3 := hide (show RawAt _ _ _ _ _ _ _ _ w3 by first | exact HR2.out.kept hb3 | exact (HR2.out.drewN 1).kept hb3); clear hb3; have c13 := HR3.out.c1; obtain ⟨nm3, hnm3, hm3⟩ := HR3.out.m; obtain ⟨w4, hr4, hm4, ht4⟩ := hm3.put (by unfold maxLen; omega) RW V HZR.out HZV.out; rw [HRWL.out, HEV.out] at hm4; have HR4 := hide (HR3.out.putM ht4 hm4 (by omega)); clear hm3 hm4 ht4)
              all_goals
                go_wp2_with (go_at_call 41; refine (HC2.out _).mono ?_; rintro e w5 ⟨rfl, hb5⟩; have HR5 := hide (HR4.out.kept hb5); clear hb5; obtain ⟨ns5, hns5, hms5⟩ := HR5.out.s; have hls := hms5.look NM HZN.out; rw [HEN.out, HSN.out] at hls; clear hms5)
                go_roundw
                case rel => exact ⟨k + 1, by omega, by go_num, hide (by rw [HNX.out, HST.out]; exact HR5.out.mono.mono)⟩
                case measure => simp [intOf]; omega
            | false =>
              have HSN := hide hsn
              have HST : Hid (rawStep (nl, f, sn) P.data.toList = (nl ++ [NMl], putF f RWl (rvL Bl), putF sn NMl true)) := hide (by rw [HSTEP.out, if_neg hne, if_neg (by rw [hsn]; decide)])
              clear hfs hst hA hAl hBl hBh hRWl hRW hX0 eA eB eR hP hh he hne hV eV hNMl hNM hAF eN hsn
              go_wp2_with (first
                | (go_at_call 41; have _t := tok1; refine (HC1.out _).mono ?_; rintro e w1 ⟨rfl, hb1⟩; have HR1 := hide (HR.out.kept hb1); clear hb1 tok1)
                | (go_at_call 22; refine (HTS.out _).mono ?_; rintro e w2 ⟨rfl, hb2⟩; have HR2 := hide (HR1.out.kept hb2); clear hb2; have c12 := HR2.out.c1; obtain ⟨nm2, hnm2, hm2⟩ := HR2.out.m; have hl := hm2.look_ok RW HZR.out; rw [HRWL.out, HFS.out, HX0.out] at hl; clear hm2))
              go_region_with (go_at_call 42; refine (HRV.out _).mono ?_; rintro e w3 ⟨rfl, hb3⟩; have HR3 := hide (show RawAt _ _ _ _ _ _ _ _ w3 by first | exact HR2.out.kept hb3 | exact (HR2.out.drewN 1).kept hb3); clear hb3; have c13 := HR3.out.c1; obtain ⟨nm3, hnm3, hm3⟩ := HR3.out.m; obtain ⟨w4, hr4, hm4, ht4⟩ := hm3.put (by unfold maxLen; omega) RW V HZR.out HZV.out; rw [HRWL.out, HEV.out] at hm4; have HR4 := hide (HR3.out.putM ht4 hm4 (by omega)); clear hm3 hm4 ht4)
              all_goals
                go_wp2_with (first
                  | (go_at_call 41; refine (HC2.out _).mono ?_; rintro e w5 ⟨rfl, hb5⟩; have HR5 := hide (HR4.out.kept hb5); clear hb5; obtain ⟨ns5, hns5, hms5⟩ := HR5.out.s; have hls := hms5.look NM HZN.out; rw [HEN.out, HSN.out] at hls; obtain ⟨w6, hr6, hm6, ht6⟩ := hms5.put (by have := HK5.out; unfold maxLen; omega) NM true HZN.out; rw [HEN.out] at hm6; have HR6 := hide (HR5.out.mono.putS ht6 hm6 (by omega)); clear hms5 hm6 ht6; obtain ⟨v6, n6, hb6, hsb6, _, _⟩ := HR6.out.r; have c06 := cell_of_row w6 (w.heap.size + 1 + 1) 0 _ _ (0, 0) hb6; have c06' : w6.cell? ⟨w.heap.size + 1 + 1, 0, none⟩ = some v6 := c06; clear hb6 hsb6 c06)
                  | (refine wpList_names rfl _ _ rfl w.heap.size w.heap.size (w.heap.size + 1 + 1) (w.heap.size + 1) (w.heap.size + 1 + 1 + 1) (3 * k + 2) _ v6 rfl w w6 NM HR6.out c06' rfl (by have := HK5.out; omega) ?_; intro A7 l7 cp7 w7 c07 f07 hR7; rw [HEN.out] at hR7; have HR7 := hide hR7; clear hR7))
                go_roundw
                case rel => exact ⟨k + 1, by omega, by go_num, hide (by rw [HNX.out, HST.out]; exact HR7.out)⟩
                case measure => simp [intOf]; omega
    · have hke : k = ps.length := by omega
      have HFIN : Hid (RawAt w.heap.size w w.heap.size (w.heap.size + 1 + 1) (w.heap.size + 1) (w.heap.size + 1 + 1 + 1) (3 * ps.length) (rawsL (ps.map fun x => x.data.toList)) wr) := hide (by
        have := HR.out
        rw [hke, List.take_length] at this
        exact this)
      obtain ⟨v, ns, hr, hsb, hnm, hnl⟩ := HFIN.out.r
      obtain ⟨A, c, rfl⟩ := hsb.slice_len
      have c0 : wr.cell? ⟨w.heap.size + 1 + 1, 0, none⟩ = some (.slice A ns.length c) := by rw [cell_of_row wr _ 0 _ _ (0, 0) hr]; rfl
      have c1 : wr.cell? ⟨w.heap.size + 1 + 1, 1, none⟩ = some (.map (some (w.heap.size + 1))) := by rw [cell_of_row wr _ 1 _ _ (0, 0) hr]; rfl
      have z0 : wr.cell? ⟨w.heap.size, 0, none⟩ = some (.slice none 0 0) := by rw [cell_of_row wr _ 0 _ _ (0, 0) HFIN.out.z]; rfl
      have z1 : wr.cell? ⟨w.heap.size, 1, none⟩ = some (.map none) := by rw [cell_of_row wr _ 1 _ _ (0, 0) HFIN.out.z]; rfl
      have f0 : ∀ i : Nat, wr.frozen? ⟨w.heap.size, i, none⟩ = false := fun i => by simp [World.frozen?, HFIN.out.z]
      have f00 := f0 0
      have f01 := f0 1
      have HSB := hide hsb
      have HNM := hide hnm
      have HNL := hide hnl
      clear hr hsb hnm hnl hke f0
      go_wp2_with fail
      have r1 : (wr.setCell ⟨w.heap.size, 0, none⟩ (.slice A ns.length c)).heap[w.heap.size]? = some (.cells #[.slice A ns.length c, .map none] 43 (0, 0)) := by
        simp [World.setCell, Array.getElem?_modify, HFIN.out.z]
      have r0 : ((wr.setCell ⟨w.heap.size, 0, none⟩ (.slice A ns.length c)).setCell ⟨w.heap.size, 1, none⟩ (.map (some (w.heap.size + 1)))).heap[w.heap.size]? = some (.cells #[.slice A ns.length c, .map (some (w.heap.size + 1))] 43 (0, 0)) := by
        generalize wr.setCell ⟨w.heap.size, 0, none⟩ (.slice A ns.length c) = wx at r1
        simp [World.setCell, Array.getElem?_modify, r1]
      obtain ⟨n, hn, hm⟩ := HFIN.out.m
      obtain ⟨es, q, hes⟩ := hm.is
      have nR := cells_map_ne HFIN.out.z hes
      refine bodyPost_ret (results_cell_row rfl _ _ w.heap.size _ _ _ _ rfl r0 Tryz.underlying43 rfl (by kernel_rfl)) rfl ?_
      refine ⟨_, _, ns, n, rfl, (HFIN.out.below.setCell (Nat.le_refl _) _).setCell (Nat.le_refl _) _, SBuf.setC (SBuf.setC HSB.out HFIN.out.z (by decide) (Nat.le_refl _) 0 _) r1 (by decide) (Nat.le_refl _) 1 _, hm.same ?_, HNM.out, HNL.out, hn⟩
      rw [Below.heap_setCell _ ⟨w.heap.size, 1, none⟩ _ (w.heap.size + 1) (by show w.heap.size + 1 ≠ w.heap.size; omega), Below.heap_setCell _ ⟨w.heap.size, 0, none⟩ _ (w.heap.size + 1) (by show w.heap.size + 1 ≠ w.heap.size; omega)]
end Go.Proofs.YtienjpelmbldpaaGreatDoor
