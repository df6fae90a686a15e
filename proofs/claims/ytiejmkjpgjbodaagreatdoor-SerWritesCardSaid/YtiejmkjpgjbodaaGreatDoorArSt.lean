import Derived.Test.YtiejmkjpgjbodaaGreatDoorArZ
import Derived.Deep.LoopGhost
namespace Go.Proofs.YtiejmkjpgjbodaaGreatDoor
open Go.RowKit
set_option linter.unusedVariables false
set_option linter.unusedSimpArgs false
set_option maxRecDepth 100000
structure StI (B b:Nat) (r:Value) (l:List ArV) (n:Nat) (F:List PartL) (is:List UInt8 -> Bool) (W0 W1 wr:World) (tb:Nat) (tok:Array Value) (o:Value) (opn:List Nat) (st:List PartL):Prop where
  ab:AB B b r o l opn W0 wr
  ok:ArOK (arL l) opn (st,n)
  oks:OkS (st,n)
  clo:closeAll is st.length st = F
  tok:wr.heap[tb]? = some (.cells tok 51 (0,0))
  size:W1.heap.size <= wr.heap.size
theorem stI_bounds {B b:Nat} {r:Value} {l:List ArV} {n:Nat} {F:List PartL} {is:List UInt8 -> Bool} {W0 W1 wr:World} {tb:Nat} {tok:Array Value} {o:Value} {opn:List Nat} {st:List PartL} (h:StI B b r l n F is W0 W1 wr tb tok o opn st) :
  l.length = n + 1 /\ n <= 5000 /\ opn.length = st.length /\ st.length <= 31 /\ 0 < st.length :=
 ⟨arLen h.ok,h.ok.few,h.ok.dep,h.oks.2.2.2,List.length_pos_iff.2 h.ok.ne⟩
set_option maxHeartbeats 16000000 in
theorem arStart_any (B b : Nat) (r o : Value) (l : List ArV) (opn : List Nat) (W0 w : World) (h : AB B b r o l opn W0 w) (s : BsL) (hOK : ArOK (arL l) opn s) (hS : OkS s) (x y : ByteArray) (k : Int) (av : Value) (at' : List AtL) (ha : AttrsC (fun g => g < B) w av at') (hx : x.data.toList ≠ []) :
    Calls Tryz.prog 43 #[.pointer (some ⟨b, 0, none⟩), .agg #[.int .i64 k, .string x, av, .string y]] w fun e w' => e = .returned (.tuple #[]) ∧
      ∃ r' o' l' opn', AB B b r' o' l' opn' W0 w' ∧ ArOK (arL l') opn' (startP ⟨2, x.data.toList, at', y.data.toList⟩ s) := by
  obtain ⟨st, n⟩ := s
  have hl0 : 0 < l.length := by have := arLen hOK; omega
  obtain ⟨g, rc, rfl, -, -, -, -⟩ := own_form h.row hl0
  obtain ⟨F, hF⟩ : ∃ F, F = closeAll (closesB x.data.toList) st.length st := ⟨_, rfl⟩
  obtain ⟨avA, avc, rfl⟩ := ha.1.form
  obtain ⟨W, hW⟩ : ∃ W, W = w.alloc (Obj.cells #[.int .i64 k, .string x, .slice avA at'.length avc, .string y] 51) := ⟨_, rfl⟩
  have hbW : Below w.heap.size w W := by rw [hW]; exact below_one w _
  have htk : W.heap[w.heap.size]? = some (.cells #[.int .i64 k, .string x, .slice avA at'.length avc, .string y] 51 (0, 0)) := by rw [hW]; exact heap_alloc_new w _
  have HI : Hid (StI B b (.slice (some ⟨g, 0, none⟩) l.length rc) l n F (closesB x.data.toList) W0 W W w.heap.size #[.int .i64 k, .string x, .slice avA at'.length avc, .string y] o opn st) := hide ⟨h.kept hbW, hOK, hS, hF.symm, htk, Nat.le_refl _⟩
  have HAT : Hid True := hide trivial
  have HAW := hide (And.intro ha (And.intro h.below h.size))
  have HX := hide hx
  have HF := hide hF
  have HW := hide hW
  clear h hOK hS ha hx hF hW hbW htk HAT
  go_enter Tryz.func43, Tryz.ntmps43
  go_wp2_with fail
  rw [← HW.out]
  go_loopg [4] opn.length (fun gk u4 wr => ∃ (o' : Value) (opn' : List Nat) (st' : List PartL), opn'.length = gk ∧ Hid (StI B b (.slice (some ⟨g, 0, none⟩) l.length rc) l n F (closesB x.data.toList) W0 W wr w.heap.size #[.int .i64 k, .string x, .slice avA at'.length avc, .string y] o' opn' st'))
  case atStart => exact ⟨o, opn, st, rfl, HI.out⟩
  case round =>
    obtain ⟨o', opn', st', hgk, HR⟩ := hrel
    obtain ⟨b1, b2, b3, b4, b5⟩ := stI_bounds HR.out
    obtain ⟨m, hm⟩ : ∃ m, opn'.length = m + 1 := ⟨opn'.length - 1, by omega⟩
    obtain ⟨go, oc, rfl, -, -, -, -⟩ := own_form HR.out.ab.opn (by omega)
    have hf := ar_find HR.out.ok (closesB x.data.toList) hm
    have HSH := hide (arShut_any B b _ _ l opn' W0 wr HR.out.ab x m (opnOK_of HR.out.ok) hm (by omega) (by omega))
    have hle := backF_le (closesB x.data.toList) (nmA l opn') m
    obtain ⟨z, hz⟩ : ∃ z, z = backF (closesB x.data.toList) (nmA l opn') m := ⟨_, rfl⟩
    rw [← hz] at hf HSH hle
    have t1 : wr.cell? ⟨w.heap.size, 1, none⟩ = some (.string x) := (Lib.cell_of_heap HR.out.tok 1).trans rfl
    have HFD := hide hf
    have HBD := hide (And.intro b1 (And.intro b2 (And.intro b3 (And.intro b4 b5))))
    have HMM := hide hm
    have HLE := hide hle
    clear hf hz b1 b2 b3 b4 b5 hle
    go_wp2_with fail
    refine HSH.out.mono ?_
    rintro e w2 ⟨rfl, hb2⟩
    have hab2 := HR.out.ab.kept hb2
    have htok2 := (hb2.block _ (lt_of_block HR.out.tok)).trans HR.out.tok
    have c0 := hab2.c0
    have c1 := hab2.c1
    rw [hm] at c1
    have cf := hab2.f 1
    have HAB2 := hide hab2
    have HTK2 := hide htok2
    have HB2 := hide hb2
    clear hab2 htok2 hb2 t1
    cases z with
    | zero =>
      have hFs : F = st' := by
        rw [← HR.out.clo]
        exact closeAll_none (by rw [HFD.out, if_pos rfl])
      obtain ⟨b1, b2, b3, b4, b5⟩ := HBD.out
      by_cases h5 : n = 5000
      · have i1 : decide ((5000 : Int) < (l.length : Int)) = true := decide_eq_true (by omega)
        have HE : Hid (ArOK (arL l) opn' (startP ⟨2, x.data.toList, at', y.data.toList⟩ (st, n))) := hide (by
          unfold startP
          rw [if_pos (show (st, n).2 = 5000 from h5)]
          show ArOK _ _ (closeAll (closesB x.data.toList) st.length st, n)
          rw [← HF.out, hFs]
          exact HR.out.ok)
        clear hFs b1 b2 b3 b4 b5 h5
        go_wp2_with fail
        (try simp only [Exit.inBlock, Exit.then]); refine bodyPost_ret (results_none rfl _ _ _) rfl ?_
        exact ⟨rfl, _, _, l, opn', HAB2.out, HE.out⟩
      · have i1 : decide ((5000 : Int) < (l.length : Int)) = false := decide_eq_false (by omega)
        obtain ⟨p0, rr, hst⟩ : ∃ p0 rr, st' = p0 :: rr := by
          cases hq : st' with
          | nil => rw [hq] at b5; simp at b5
          | cons p0 rr => exact ⟨p0, rr, rfl⟩
        subst hst
        have hok := HR.out.ok
        have hkb := kids_bound HR.out.oks
        obtain ⟨a, tl, ks, ha, hal, hat, hks, htl2⟩ := hok.inner
        obtain ⟨q, hq, q1, q2⟩ := arL_at hat
        have hkl : q.ks.length ≤ 100000 := by
          rw [q2, List.length_append, hks.len, Tr.len_of]
          have : tl.length ≤ 1 := by rcases htl2 with ⟨_, e⟩ | ⟨t, _, e, _⟩ <;> rw [e] <;> simp
          omega
        have hat2 : AttrsC (fun g => g < B) w2 (.slice avA at'.length avc) at' := HAW.out.1.mono (fun g hg => (HAB2.out.below.block g hg).trans (HAW.out.2.1.block g hg).symm) (fun _ x => x)
        have HPT := hide (arPut_any B b _ _ l opn' W0 w2 HAB2.out ⟨x.data.toList, at', []⟩ (.slice avA at'.length avc) hat2 a q hq ha (by omega) hkl (by omega))
        rw [show str ([] : List UInt8) = (⟨#[]⟩ : ByteArray) from rfl, str_of] at HPT
        have HOKK := hide hok
        have HN5 : Hid (¬ n = 5000) := hide h5
        have HIN := hide (And.intro ha hal)
        have HFS := hide hFs
        have HDEP : Hid (opn'.length = rr.length + 1 ∧ opn'.length ≤ 31 ∧ l.length ≤ 5001) := hide (by simp only [List.length_cons] at b3 b4; omega)
        have t1 : w2.cell? ⟨w.heap.size, 1, none⟩ = some (.string x) := (Lib.cell_of_heap HTK2.out 1).trans rfl
        have t2 : w2.cell? ⟨w.heap.size, 2, none⟩ = some (.slice avA at'.length avc) := (Lib.cell_of_heap HTK2.out 2).trans rfl
        clear hFs b1 b2 b3 b4 b5 h5 hok hkb ha hal hat hks htl2 hq q1 q2 hkl hat2
        go_wp2_with fail
        refine HPT.out.mono ?_
        rintro e w3 ⟨rfl, hts, r3, l3, hab3, hl3⟩
        have htk3 := (hts _ _ HTK2.out).trans HTK2.out
        have t3 : w3.cell? ⟨w.heap.size, 1, none⟩ = some (.string x) := (Lib.cell_of_heap htk3 1).trans rfl
        have d1 := hab3.c1
        have df := hab3.f 1
        rw [HMM.out] at d1
        have HAB3 := hide hab3
        have HL3 := hide hl3
        have HVD : Hid (∀ w', Calls Tryz.prog 60 #[.string x] w' fun e w'' => e = .returned (.bool (voidB x.data.toList)) ∧ w' = w'') := hide (fun w' => rvoid14_any x w')
        clear hts hab3 hl3 htk3 c0 c1 cf t1 t2
        cases hv : voidB x.data.toList with
        | true =>
          rw [hv] at HVD
          have hcd : (voidB x.data.toList = true ∨ 30 < (p0 :: rr).length) := .inl hv
          have HCD := hide hcd
          clear hv hcd
          go_wp2_with (go_at_call 60; refine (HVD.out _).mono ?_; rintro e w5 ⟨rfl, hw5⟩; subst hw5)
          have h9 := arOK_void (nm := x.data.toList) (at' := at') HOKK.out (by have := HN5.out; omega) HX.out HIN.out.1
          have HE : Hid (ArOK (arL l3) opn' (startP ⟨2, x.data.toList, at', y.data.toList⟩ (st, n))) := hide (by
            unfold startP
            rw [if_neg (show ¬ (st, n).2 = 5000 from HN5.out)]
            show ArOK _ _ (putP _ (closeAll (closesB x.data.toList) st.length st) n)
            rw [← HF.out, HFS.out, putP_cons, if_pos HCD.out, HL3.out]
            exact h9)
          clear h9
          go_end0
          exact ⟨rfl, _, _, l3, opn', HAB3.out, HE.out⟩
        | false =>
          rw [hv] at HVD
          by_cases h30 : opn'.length ≤ 30
          · have j1 : decide (((m : Int) + 1) ≤ 30) = true := decide_eq_true (by rw [HMM.out] at h30; omega)
            have hcd : ¬ (voidB x.data.toList = true ∨ 30 < (p0 :: rr).length) := by
              rw [hv]
              have := HDEP.out.1
              simp only [List.length_cons]
              intro hh
              rcases hh with hh | hh
              · cases hh
              · omega
            have HCD := hide hcd
            have HOW : Hid (∀ w', Below w3.heap.size w3 w' → AB B b r3 (.slice (some ⟨go, 0, none⟩) opn'.length oc) l3 opn' W0 w') := hide (fun w' hb => HAB3.out.kept hb)
            rw [HMM.out] at HOW
            have HSZ3 := hide HAB3.out.size
            clear hv hcd h30
            go_wp2_with (first
              | (go_at_call 60; refine (HVD.out _).mono ?_; rintro e w5 ⟨rfl, hw5⟩; subst hw5)
              | (refine wpList_arInt rfl _ _ rfl B (.slice (some ⟨go, 0, none⟩) (m + 1) oc) opn' rfl ?_ ?_ ⟨w3.heap.size, 0, none⟩ rfl l.length ?_ (by have := HDEP.out; omega) ?_
                 · exact (HOW.out _ (below_one w3 _)).opn
                 · exact Nat.le_trans HSZ3.out (below_one w3 _).size
                 · exact (Lib.cell_of_heap (heap_alloc_new w3 _) 0).trans rfl
                 intro v' w4 ho4 hg4 hor4
                 obtain ⟨oA2, oc2, rfl, -, -⟩ := own_slice ho4
                 have HBV := hide (HOW.out _ (below_one w3 (.cells #[.int .i64 (l.length : Int)] 3)))
                 obtain ⟨-, z0, z1, zf⟩ := HBV.out.after HBV.out.opn (by decide) hg4
                 have HO4 := hide ho4
                 have HG4 := hide hg4
                 have HOR4 := hide hor4
                 clear ho4 hg4 hor4))
            have h8 := HBV.out.setOpen (opn' := opn' ++ [l.length]) HG4.out (by rw [List.length_append]; exact HO4.out) HOR4.out
            have HE : Hid (ArOK (arL l3) (opn' ++ [l.length]) (startP ⟨2, x.data.toList, at', y.data.toList⟩ (st, n))) := hide (by
              unfold startP
              rw [if_neg (show ¬ (st, n).2 = 5000 from HN5.out)]
              show ArOK _ _ (putP _ (closeAll (closesB x.data.toList) st.length st) n)
              rw [← HF.out, HFS.out, putP_cons, if_neg HCD.out, HL3.out]
              have h9 := arOK_open (nm := x.data.toList) (at' := at') HOKK.out (by have := HN5.out; omega) HX.out HIN.out.1
              rw [arL_len] at h9
              exact h9)
            have H8 := hide h8
            clear h8
            go_end0
            have h7 := H8.out
            rw [hgk] at h7
            exact ⟨rfl, _, _, l3, _, h7, HE.out⟩
          · have j1 : decide (((m : Int) + 1) ≤ 30) = false := decide_eq_false (by rw [HMM.out] at h30; omega)
            have hcd : (voidB x.data.toList = true ∨ 30 < (p0 :: rr).length) := .inr (by have := HDEP.out.1; simp only [List.length_cons]; omega)
            have HCD := hide hcd
            clear hv hcd h30
            go_wp2_with (go_at_call 60; refine (HVD.out _).mono ?_; rintro e w5 ⟨rfl, hw5⟩; subst hw5)
            have h9 := arOK_void (nm := x.data.toList) (at' := at') HOKK.out (by have := HN5.out; omega) HX.out HIN.out.1
            have HE : Hid (ArOK (arL l3) opn' (startP ⟨2, x.data.toList, at', y.data.toList⟩ (st, n))) := hide (by
              unfold startP
              rw [if_neg (show ¬ (st, n).2 = 5000 from HN5.out)]
              show ArOK _ _ (putP _ (closeAll (closesB x.data.toList) st.length st) n)
              rw [← HF.out, HFS.out, putP_cons, if_pos HCD.out, HL3.out]
              exact h9)
            clear h9
            go_end0
            exact ⟨rfl, _, _, l3, opn', HAB3.out, HE.out⟩
    | succ z =>
      have hle2 : (z + 1 : Nat) ≤ oc := by
        obtain ⟨_, _, hv, hv2, _⟩ := own_slice HR.out.ab.opn
        injection hv with _ _ hv
        subst hv
        have := HLE.out
        omega
      have i1 : (z : Int) + 1 ≤ (oc : Int) := by omega
      have i2 : (0 : Int) ≤ (z : Int) + 1 := by omega
      have i3 : ((z : Int) + 1).toNat = z + 1 := by omega
      have i4 : ((z : Int) + 1 == 0) = false := by rw [beq_eq_false_iff_ne]; omega
      have htk := own_take (m := z + 1) HAB2.out.opn rfl (by have := HLE.out; omega)
      have hs := HAB2.out.setOpen (o' := .slice (some ⟨go, 0, none⟩) (opn'.take (z + 1)).length oc) ⟨rfl, rfl, rfl, Nat.le_refl _, fun _ _ _ => rfl⟩ htk (.inl rfl)
      have hlt : (opn'.take (z + 1)).length = z + 1 := by rw [List.length_take]; have := HLE.out; omega
      rw [hlt] at hs
      have HS := hide hs
      have HLT := hide hlt
      clear htk hs hlt hle2
      have hz1 : z + 1 ≤ m := HLE.out
      have hst9 : m + 1 = st'.length := by have := HBD.out; have := HMM.out; omega
      have hfd : findP (closesB x.data.toList) st' = some (m + 1 - (z + 1)) := by rw [HFD.out, if_neg (Nat.succ_ne_zero z)]
      have hok9 := arOK_closeN (m + 1 - (z + 1)) opn' st' HR.out.ok (by omega)
      rw [HMM.out, show m + 1 - (m + 1 - (z + 1)) = z + 1 by omega] at hok9
      have hoks9 : OkS (closeN (m + 1 - (z + 1)) st', n) := by
        obtain ⟨k1, k2, k3, k4⟩ := HR.out.oks
        have hcl := closeN_length (m + 1 - (z + 1)) st' (by omega)
        refine ⟨fun e => ?_, ?_, k3, ?_⟩
        · have e : closeN (m + 1 - (z + 1)) st' = [] := e
          rw [e, List.length_nil] at hcl; omega
        · show stW (closeN (m + 1 - (z + 1)) st') ≤ n
          rw [closeN_wt]; exact k2
        · show (closeN (m + 1 - (z + 1)) st').length ≤ 31
          have k4 : st'.length ≤ 31 := k4
          omega
      have hclo9 : closeAll (closesB x.data.toList) (closeN (m + 1 - (z + 1)) st').length (closeN (m + 1 - (z + 1)) st') = F := by
        rw [← closeAll_step hfd]; exact HR.out.clo
      have HNEW : Hid (StI B b (.slice (some ⟨g, 0, none⟩) l.length rc) l n F (closesB x.data.toList) W0 W (w2.setCell ⟨b, 1, none⟩ (.slice (some ⟨go, 0, none⟩) (z + 1) oc)) w.heap.size #[.int .i64 k, .string x, .slice avA at'.length avc, .string y] (.slice (some ⟨go, 0, none⟩) (z + 1) oc) (opn'.take (z + 1)) (closeN (m + 1 - (z + 1)) st')) :=
        hide ⟨HS.out, hok9, hoks9, hclo9, (Below.heap_setCell w2 ⟨b, 1, none⟩ _ w.heap.size (fun e => by
          have e : w.heap.size = b := e
          have h9 := HTK2.out
          rw [e] at h9
          exact hole_block HAB2.out.blk _ _ (by decide) h9)).trans HTK2.out, by rw [World.size_setCell]; exact Nat.le_trans HR.out.size HB2.out.size⟩
      clear hst9 hfd hok9 hoks9 hclo9
      go_wp2_with fail
      go_roundg (z + 1)
      case rel => exact ⟨_, _, _, HLT.out, HNEW⟩
      case measure => have := HMM.out; omega
end Go.Proofs.YtiejmkjpgjbodaaGreatDoor
