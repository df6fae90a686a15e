/- More of the first texts of this claim in one: each with its own head. No statement is proved here. -/
import Derived.Test.YtiejmkjpgjbodaaGreatDoorBaseO
import Derived.Deep.LoopGhost
import Derived.Test.YtiejmkjpgjbodaaGreatDoorBaseN
import Derived.Test.YtiejmkjpgjbodaaGreatDoorBaseM
import Derived.Test.YtiejmkjpgjbodaaGreatDoorShelf
import Derived.Maps.Own
import Derived.Maps.OwnSet
import Derived.Maps.Views
import Derived.Lib.SlTrimSet
import Derived.Shelf.Strings.SlTrimAscii
import Derived.Lib.OthersKept
import Derived.Deep.Cut
import Derived.Lib.Builder
import Derived.Laws.Externs
namespace Go.Proofs.YtiejmkjpgjbodaaGreatDoor
open Go.RowKit
set_option linter.unusedVariables false
set_option linter.unusedSimpArgs false
set_option maxRecDepth 100000
theorem kids_bound {p : PartL} {r : List PartL} {n : Nat} (h : OkS (p :: r, n)) : p.kids.length ≤ 5000 := by
  have h1 : p.kids.length ≤ p.wt := Nat.le_trans (kidsW_len _) (Nat.le_add_right _ _)
  have h2 : p.wt ≤ stW (p :: r) := by
    cases r with
    | nil => exact Nat.le_refl _
    | cons q r => rw [stW_cons]; omega
  have h3 := h.2.1
  have h4 := h.2.2.1
  simp only at h3 h4
  omega
theorem arLen {l : List ArV} {opn : List Nat} {s : BsL} (h : ArOK (arL l) opn s) : l.length = s.2 + 1 := by rw [← arL_len]; exact h.len
theorem opnOK_of {l : List ArV} {opn : List Nat} {s : BsL} (h : ArOK (arL l) opn s) : OpnOK l opn := by
  intro i hi
  obtain ⟨tl, _, _, h3, _⟩ := h.hot
  have h9 := h3 _ (List.getElem_mem hi)
  rw [arL_len] at h9
  exact ⟨opn[i], l[opn[i]], List.getElem?_eq_getElem hi, List.getElem?_eq_getElem h9⟩
theorem ar_find {l : List ArV} {opn : List Nat} {s : BsL} (h : ArOK (arL l) opn s) (is : List UInt8 → Bool) {m : Nat} (hm : opn.length = m + 1) :
    findP is s.1 = if backF is (nmA l opn) m = 0 then none else some (m + 1 - backF is (nmA l opn) m) := by
  have hd := h.dep
  have hb := back_find is (nmA l opn) s.1 (fun i hi => by
    obtain ⟨o, q, ho, hq⟩ := opnOK_of h i (by omega)
    have hp : ∃ p, s.1[s.1.length - 1 - i]? = some p := ⟨_, List.getElem?_eq_getElem (by omega)⟩
    obtain ⟨p, hp⟩ := hp
    refine ⟨p, hp, ?_⟩
    obtain ⟨ls, h1⟩ := h.node ho hp
    obtain ⟨q', h2, h3, _⟩ := arL_at h1
    rw [hq] at h2
    injection h2 with h2
    subst h2
    rw [nmA_at ho hq, h3])
  rw [show s.1.length - 1 = m by omega, show s.1.length = m + 1 by omega] at hb
  exact hb
theorem arChars_any (B b : Nat) (r o : Value) (l : List ArV) (opn : List Nat) (W0 w : World) (h : AB B b r o l opn W0 w) (p : PartL) (rr : List PartL) (n : Nat) (hOK : ArOK (arL l) opn (p :: rr, n)) (hS : OkS (p :: rr, n)) (x : ByteArray) (hx : x.data.toList ≠ []) (htl : p.tail.length + x.size ≤ 100000000000000) :
    Calls Tryz.prog 42 #[.pointer (some ⟨b, 0, none⟩), .string x] w fun e w' => e = .returned (.tuple #[]) ∧
      ∃ r' l', AB B b r' o l' opn W0 w' ∧ ArOK (arL l') opn (charsP x.data.toList (p :: rr, n)) := by
  have hlen := arLen hOK
  have hfew := hOK.few
  have hdep := hOK.dep
  have hkb := kids_bound hS
  have hst := hS.2.2.2
  simp only at hlen hfew
  simp only at hdep hst
  by_cases hp : p.tail = []
  · obtain ⟨a, tl, ks, ha, hal, hat, hks, htl2⟩ := hOK.inner
    have e : tl = [] := by
      rcases htl2 with ⟨_, e⟩ | ⟨t, e, _⟩
      · exact e
      · exact absurd hp e
    subst e
    rw [List.append_nil] at hat hks
    obtain ⟨q, hq, q1, q2⟩ := arL_at hat
    have hkl : ks.length = p.kids.length := by rw [hks.len, Tr.len_of]
    have hlast : q.ks = [] ∨ ∃ k q', q.ks.getLast? = some k ∧ l[k]? = some q' ∧ q'.h.name ≠ [] := by
      rw [q2]
      cases hg : ks.getLast? with
      | none => exact .inl (List.getLast?_eq_none_iff.1 hg)
      | some k =>
        obtain ⟨z, ls, z1, z2⟩ := hks.last hg
        obtain ⟨q', hq', q3, _⟩ := arL_at z2
        exact .inr ⟨k, q', rfl, hq', by rw [q3]; exact hOK.last p rr rfl z z1⟩
    rcases Nat.lt_or_ge 5000 l.length with hf | hf
    · refine (arTextNo_any B b r o l opn W0 w h x a q hq ha (by omega) (by rw [q2]; omega) (by omega) hlast hf).mono fun e w' ⟨h1, h2⟩ => ⟨h1, r, l, h2, ?_⟩
      rw [charsP_cons, if_pos hp, if_pos (by omega)]
      exact hOK
    · refine (arTextPut_any B b r o l opn W0 w h x a q hq ha (by omega) (by rw [q2]; omega) (by omega) hlast hf).mono fun e w' ⟨h1, r', l', h2, h3⟩ => ⟨h1, r', l', h2, ?_⟩
      rw [h3, charsP_cons, if_pos hp, if_neg (by omega)]
      exact arOK_text hOK hp hx (by omega) ha
  · obtain ⟨a, t, ks, ha, hal, hat, hkl, htt, hgr⟩ := hOK.growing hp
    obtain ⟨q, hq, q1, q2⟩ := arL_at hat
    obtain ⟨q', hq', q3, q4⟩ := arL_at htt
    refine (arGrow_any B b r o l opn W0 w h x a t q q' hq ha (by rw [q2]; simp) hq' (by rw [q3]) (by omega) (by rw [q2, List.length_append]; simp; omega) (by omega) (by rw [q3]; exact htl)).mono fun e w' ⟨h1, l', h2, h3⟩ => ⟨h1, r, l', h2, ?_⟩
    rw [h3, charsP_cons, if_neg hp]
    exact hgr _
theorem arEndP_any (B b : Nat) (r o : Value) (l : List ArV) (opn : List Nat) (W0 w : World) (h : AB B b r o l opn W0 w) (s : BsL) (hOK : ArOK (arL l) opn s) (hS : OkS s) (x : ByteArray) :
    Calls Tryz.prog 44 #[.pointer (some ⟨b, 0, none⟩), .string x] w fun e w' => e = .returned (.tuple #[]) ∧
      ∃ o' opn', AB B b r o' l opn' W0 w' ∧ ArOK (arL l) opn' (endP x.data.toList s) := by
  have hlen := arLen hOK
  have hfew := hOK.few
  have hdep := hOK.dep
  have hst := hS.2.2.2
  have hne : 0 < s.1.length := List.length_pos_iff.2 hOK.ne
  obtain ⟨m, hm⟩ : ∃ m, opn.length = m + 1 := ⟨opn.length - 1, by omega⟩
  have hf := ar_find hOK (fun o => o == x.data.toList) hm
  refine (arEnd_any B b r o l opn W0 w h x m (opnOK_of hOK) hm (by omega) (by omega)).mono fun e w' ⟨h1, h2⟩ => ⟨h1, ?_⟩
  unfold EndR at h2
  unfold endP
  rw [hf]
  by_cases hz : backF (fun o => o == x.data.toList) (nmA l opn) m = 0
  · rw [if_pos hz] at h2 ⊢
    exact ⟨o, opn, h2, hOK⟩
  · rw [if_neg hz] at h2 ⊢
    obtain ⟨o', h2⟩ := h2
    have hle := backF_le (fun o => o == x.data.toList) (nmA l opn) m
    refine ⟨o', _, h2, ?_⟩
    obtain ⟨st, n⟩ := s
    have := arOK_closeN (m + 1 - backF (fun o => o == x.data.toList) (nmA l opn) m) opn st hOK (by simp only at hdep; omega)
    rw [show opn.length - (m + 1 - backF (fun o => o == x.data.toList) (nmA l opn) m) = backF (fun o => o == x.data.toList) (nmA l opn) m by omega] at this
    exact this
end Go.Proofs.YtiejmkjpgjbodaaGreatDoor

namespace Go.Proofs.YtiejmkjpgjbodaaGreatDoor
open Go.RowKit
set_option linter.unusedVariables false
set_option linter.unusedSimpArgs false
set_option maxRecDepth 100000
structure StI (B b : Nat) (r : Value) (l : List ArV) (n : Nat) (F : List PartL) (is : List UInt8 → Bool) (W0 W1 wr : World) (tb : Nat) (tok : Array Value) (o : Value) (opn : List Nat) (st : List PartL) : Prop where
  ab : AB B b r o l opn W0 wr
  ok : ArOK (arL l) opn (st, n)
  oks : OkS (st, n)
  clo : closeAll is st.length st = F
  tok : wr.heap[tb]? = some (.cells tok 51 (0, 0))
  size : W1.heap.size ≤ wr.heap.size
theorem stI_bounds {B b : Nat} {r : Value} {l : List ArV} {n : Nat} {F : List PartL} {is : List UInt8 → Bool} {W0 W1 wr : World} {tb : Nat} {tok : Array Value} {o : Value} {opn : List Nat} {st : List PartL} (h : StI B b r l n F is W0 W1 wr tb tok o opn st) :
    l.length = n + 1 ∧ n ≤ 5000 ∧ opn.length = st.length ∧ st.length ≤ 31 ∧ 0 < st.length :=
  ⟨arLen h.ok, h.ok.few, h.ok.dep, h.oks.2.2.2, List.length_pos_iff.2 h.ok.ne⟩
set_option maxHeartbeats 16000000 in
theorem arStart_any (B b : Nat) (r o : Value) (l : List ArV) (opn : List Nat) (W0 w : World) (h : AB B b r o l opn W0 w) (s : BsL) (hOK : ArOK (arL l) opn s) (hS : OkS s) (x y : ByteArray) (k : Int) (av : Value) (at' : List AtL) (ha : AttrsC (fun g => g < B) w av at') (hx : x.data.toList ≠ []) :
    Calls Tryz.prog 43 #[.pointer (some ⟨b, 0, none⟩), .agg #[.int .i64 k, .string x, av, .string y]] w fun e w' => e = .returned (.tuple #[]) ∧
      ∃ r' o' l' opn', AB B b r' o' l' opn' W0 w' ∧ ArOK (arL l') opn' (startP ⟨2, x.data.toList, at', y.data.toList⟩ s) := by
  obtain ⟨st, n⟩ := s
  have hl0 : 0 < l.length := by have := arLen hOK; omega
  obtain ⟨g, rc, rfl, -, -, -, -⟩ := own_form h.row hl0
  obtain ⟨F, hF⟩ : ∃ F, F = closeAll (closesB x.data.toList) st.length st := ⟨_, rfl⟩
  obtain ⟨avA, avc, rfl⟩ := ha.1.form
  obtain ⟨W, hW⟩ : ∃ W, W = w.alloc (Obj.cells #[.int .i64 k, .string x, .slice avA at'.length avc, .string y] 51) := ⟨_, rfl⟩
  have hbW : Below w.heap.size w W := by rw [hW]; exact below_one w _
  have htk : W.heap[w.heap.size]? = some (.cells #[.int .i64 k, .string x, .slice avA at'.length avc, .string y] 51 (0, 0)) := by rw [hW]; exact heap_alloc_new w _
  have HI : Hid (StI B b (.slice (some ⟨g, 0, none⟩) l.length rc) l n F (closesB x.data.toList) W0 W W w.heap.size #[.int .i64 k, .string x, .slice avA at'.length avc, .string y] o opn st) := hide ⟨h.kept hbW, hOK, hS, hF.symm, htk, Nat.le_refl _⟩
  have HAT : Hid True := hide trivial
  have HAW := hide (And.intro ha (And.intro h.below h.size))
  have HX := hide hx
  have HF := hide hF
  have HW := hide hW
  clear h hOK hS ha hx hF hW hbW htk HAT
  go_enter Tryz.func43, Tryz.ntmps43
  go_wp2_with fail
  rw [← HW.out]
  go_loopg [4] opn.length (fun gk u4 wr => ∃ (o' : Value) (opn' : List Nat) (st' : List PartL), opn'.length = gk ∧ Hid (StI B b (.slice (some ⟨g, 0, none⟩) l.length rc) l n F (closesB x.data.toList) W0 W wr w.heap.size #[.int .i64 k, .string x, .slice avA at'.length avc, .string y] o' opn' st'))
  case atStart => exact ⟨o, opn, st, rfl, HI.out⟩
  case round =>
    obtain ⟨o', opn', st', hgk, HR⟩ := hrel
    obtain ⟨b1, b2, b3, b4, b5⟩ := stI_bounds HR.out
    obtain ⟨m, hm⟩ : ∃ m, opn'.length = m + 1 := ⟨opn'.length - 1, by omega⟩
    obtain ⟨go, oc, rfl, -, -, -, -⟩ := own_form HR.out.ab.opn (by omega)
    have hf := ar_find HR.out.ok (closesB x.data.toList) hm
    have HSH := hide (arShut_any B b _ _ l opn' W0 wr HR.out.ab x m (opnOK_of HR.out.ok) hm (by omega) (by omega))
    have hle := backF_le (closesB x.data.toList) (nmA l opn') m
    obtain ⟨z, hz⟩ : ∃ z, z = backF (closesB x.data.toList) (nmA l opn') m := ⟨_, rfl⟩
    rw [← hz] at hf HSH hle
    have t1 : wr.cell? ⟨w.heap.size, 1, none⟩ = some (.string x) := (Lib.cell_of_heap HR.out.tok 1).trans rfl
    have HFD := hide hf
    have HBD := hide (And.intro b1 (And.intro b2 (And.intro b3 (And.intro b4 b5))))
    have HMM := hide hm
    have HLE := hide hle
    clear hf hz b1 b2 b3 b4 b5 hle
    go_wp2_with fail
    refine HSH.out.mono ?_
    rintro e w2 ⟨rfl, hb2⟩
    have hab2 := HR.out.ab.kept hb2
    have htok2 := (hb2.block _ (lt_of_block HR.out.tok)).trans HR.out.tok
    have c0 := hab2.c0
    have c1 := hab2.c1
    rw [hm] at c1
    have cf := hab2.f 1
    have HAB2 := hide hab2
    have HTK2 := hide htok2
    have HB2 := hide hb2
    clear hab2 htok2 hb2 t1
    cases z with
    | zero =>
      have hFs : F = st' := by
        rw [← HR.out.clo]
        exact closeAll_none (by rw [HFD.out, if_pos rfl])
      obtain ⟨b1, b2, b3, b4, b5⟩ := HBD.out
      by_cases h5 : n = 5000
      · have i1 : decide ((5000 : Int) < (l.length : Int)) = true := decide_eq_true (by omega)
        have HE : Hid (ArOK (arL l) opn' (startP ⟨2, x.data.toList, at', y.data.toList⟩ (st, n))) := hide (by
          unfold startP
          rw [if_pos (show (st, n).2 = 5000 from h5)]
          show ArOK _ _ (closeAll (closesB x.data.toList) st.length st, n)
          rw [← HF.out, hFs]
          exact HR.out.ok)
        clear hFs b1 b2 b3 b4 b5 h5
        go_wp2_with fail
        (try simp only [Exit.inBlock, Exit.then]); refine bodyPost_ret (results_none rfl _ _ _) rfl ?_
        exact ⟨rfl, _, _, l, opn', HAB2.out, HE.out⟩
      · have i1 : decide ((5000 : Int) < (l.length : Int)) = false := decide_eq_false (by omega)
        obtain ⟨p0, rr, hst⟩ : ∃ p0 rr, st' = p0 :: rr := by
          cases hq : st' with
          | nil => rw [hq] at b5; simp at b5
          | cons p0 rr => exact ⟨p0, rr, rfl⟩
        subst hst
        have hok := HR.out.ok
        have hkb := kids_bound HR.out.oks
        obtain ⟨a, tl, ks, ha, hal, hat, hks, htl2⟩ := hok.inner
        obtain ⟨q, hq, q1, q2⟩ := arL_at hat
        have hkl : q.ks.length ≤ 100000 := by
          rw [q2, List.length_append, hks.len, Tr.len_of]
          have : tl.length ≤ 1 := by rcases htl2 with ⟨_, e⟩ | ⟨t, _, e, _⟩ <;> rw [e] <;> simp
          omega
        have hat2 : AttrsC (fun g => g < B) w2 (.slice avA at'.length avc) at' := HAW.out.1.mono (fun g hg => (HAB2.out.below.block g hg).trans (HAW.out.2.1.block g hg).symm) (fun _ x => x)
        have HPT := hide (arPut_any B b _ _ l opn' W0 w2 HAB2.out ⟨x.data.toList, at', []⟩ (.slice avA at'.length avc) hat2 a q hq ha (by omega) hkl (by omega))
        rw [show str ([] : List UInt8) = (⟨#[]⟩ : ByteArray) from rfl, str_of] at HPT
        have HOKK := hide hok
        have HN5 : Hid (¬ n = 5000) := hide h5
        have HIN := hide (And.intro ha hal)
        have HFS := hide hFs
        have HDEP : Hid (opn'.length = rr.length + 1 ∧ opn'.length ≤ 31 ∧ l.length ≤ 5001) := hide (by simp only [List.length_cons] at b3 b4; omega)
        have t1 : w2.cell? ⟨w.heap.size, 1, none⟩ = some (.string x) := (Lib.cell_of_heap HTK2.out 1).trans rfl
        have t2 : w2.cell? ⟨w.heap.size, 2, none⟩ = some (.slice avA at'.length avc) := (Lib.cell_of_heap HTK2.out 2).trans rfl
        clear hFs b1 b2 b3 b4 b5 h5 hok hkb ha hal hat hks htl2 hq q1 q2 hkl hat2
        go_wp2_with fail
        refine HPT.out.mono ?_
        rintro e w3 ⟨rfl, hts, r3, l3, hab3, hl3⟩
        have htk3 := (hts _ _ HTK2.out).trans HTK2.out
        have t3 : w3.cell? ⟨w.heap.size, 1, none⟩ = some (.string x) := (Lib.cell_of_heap htk3 1).trans rfl
        have d1 := hab3.c1
        have df := hab3.f 1
        rw [HMM.out] at d1
        have HAB3 := hide hab3
        have HL3 := hide hl3
        have HVD : Hid (∀ w', Calls Tryz.prog 60 #[.string x] w' fun e w'' => e = .returned (.bool (voidB x.data.toList)) ∧ w' = w'') := hide (fun w' => rvoid14_any x w')
        clear hts hab3 hl3 htk3 c0 c1 cf t1 t2
        cases hv : voidB x.data.toList with
        | true =>
          rw [hv] at HVD
          have hcd : (voidB x.data.toList = true ∨ 30 < (p0 :: rr).length) := .inl hv
          have HCD := hide hcd
          clear hv hcd
          go_wp2_with (go_at_call 60; refine (HVD.out _).mono ?_; rintro e w5 ⟨rfl, hw5⟩; subst hw5)
          have h9 := arOK_void (nm := x.data.toList) (at' := at') HOKK.out (by have := HN5.out; omega) HX.out HIN.out.1
          have HE : Hid (ArOK (arL l3) opn' (startP ⟨2, x.data.toList, at', y.data.toList⟩ (st, n))) := hide (by
            unfold startP
            rw [if_neg (show ¬ (st, n).2 = 5000 from HN5.out)]
            show ArOK _ _ (putP _ (closeAll (closesB x.data.toList) st.length st) n)
            rw [← HF.out, HFS.out, putP_cons, if_pos HCD.out, HL3.out]
            exact h9)
          clear h9
          go_end0
          exact ⟨rfl, _, _, l3, opn', HAB3.out, HE.out⟩
        | false =>
          rw [hv] at HVD
          by_cases h30 : opn'.length ≤ 30
          · have j1 : decide (((m : Int) + 1) ≤ 30) = true := decide_eq_true (by rw [HMM.out] at h30; omega)
            have hcd : ¬ (voidB x.data.toList = true ∨ 30 < (p0 :: rr).length) := by
              rw [hv]
              have := HDEP.out.1
              simp only [List.length_cons]
              intro hh
              rcases hh with hh | hh
              · cases hh
              · omega
            have HCD := hide hcd
            have HOW : Hid (∀ w', Below w3.heap.size w3 w' → AB B b r3 (.slice (some ⟨go, 0, none⟩) opn'.length oc) l3 opn' W0 w') := hide (fun w' hb => HAB3.out.kept hb)
            rw [HMM.out] at HOW
            have HSZ3 := hide HAB3.out.size
            clear hv hcd h30
            go_wp2_with (first
              | (go_at_call 60; refine (HVD.out _).mono ?_; rintro e w5 ⟨rfl, hw5⟩; subst hw5)
              | (refine wpList_arInt rfl _ _ rfl B (.slice (some ⟨go, 0, none⟩) (m + 1) oc) opn' rfl ?_ ?_ ⟨w3.heap.size, 0, none⟩ rfl l.length ?_ (by have := HDEP.out; omega) ?_
                 · exact (HOW.out _ (below_one w3 _)).opn
                 · exact Nat.le_trans HSZ3.out (below_one w3 _).size
                 · exact (Lib.cell_of_heap (heap_alloc_new w3 _) 0).trans rfl
                 intro v' w4 ho4 hg4 hor4
                 obtain ⟨oA2, oc2, rfl, -, -⟩ := own_slice ho4
                 have HBV := hide (HOW.out _ (below_one w3 (.cells #[.int .i64 (l.length : Int)] 3)))
                 obtain ⟨-, z0, z1, zf⟩ := HBV.out.after HBV.out.opn (by decide) hg4
                 have HO4 := hide ho4
                 have HG4 := hide hg4
                 have HOR4 := hide hor4
                 clear ho4 hg4 hor4))
            have h8 := HBV.out.setOpen (opn' := opn' ++ [l.length]) HG4.out (by rw [List.length_append]; exact HO4.out) HOR4.out
            have HE : Hid (ArOK (arL l3) (opn' ++ [l.length]) (startP ⟨2, x.data.toList, at', y.data.toList⟩ (st, n))) := hide (by
              unfold startP
              rw [if_neg (show ¬ (st, n).2 = 5000 from HN5.out)]
              show ArOK _ _ (putP _ (closeAll (closesB x.data.toList) st.length st) n)
              rw [← HF.out, HFS.out, putP_cons, if_neg HCD.out, HL3.out]
              have h9 := arOK_open (nm := x.data.toList) (at' := at') HOKK.out (by have := HN5.out; omega) HX.out HIN.out.1
              rw [arL_len] at h9
              exact h9)
            have H8 := hide h8
            clear h8
            go_end0
            have h7 := H8.out
            rw [hgk] at h7
            exact ⟨rfl, _, _, l3, _, h7, HE.out⟩
          · have j1 : decide (((m : Int) + 1) ≤ 30) = false := decide_eq_false (by rw [HMM.out] at h30; omega)
            have hcd : (voidB x.data.toList = true ∨ 30 < (p0 :: rr).length) := .inr (by have := HDEP.out.1; simp only [List.length_cons]; omega)
            have HCD := hide hcd
            clear hv hcd h30
            go_wp2_with (go_at_call 60; refine (HVD.out _).mono ?_; rintro e w5 ⟨rfl, hw5⟩; subst hw5)
            have h9 := arOK_void (nm := x.data.toList) (at' := at') HOKK.out (by have := HN5.out; omega) HX.out HIN.out.1
            have HE : Hid (ArOK (arL l3) opn' (startP ⟨2, x.data.toList, at', y.data.toList⟩ (st, n))) := hide (by
              unfold startP
              rw [if_neg (show ¬ (st, n).2 = 5000 from HN5.out)]
              show ArOK _ _ (putP _ (closeAll (closesB x.data.toList) st.length st) n)
              rw [← HF.out, HFS.out, putP_cons, if_pos HCD.out, HL3.out]
              exact h9)
            clear h9
            go_end0
            exact ⟨rfl, _, _, l3, opn', HAB3.out, HE.out⟩
    | succ z =>
      have hle2 : (z + 1 : Nat) ≤ oc := by
        obtain ⟨_, _, hv, hv2, _⟩ := own_slice HR.out.ab.opn
        injection hv with _ _ hv
        subst hv
        have := HLE.out
        omega
      have i1 : (z : Int) + 1 ≤ (oc : Int) := by omega
      have i2 : (0 : Int) ≤ (z : Int) + 1 := by omega
      have i3 : ((z : Int) + 1).toNat = z + 1 := by omega
      have i4 : ((z : Int) + 1 == 0) = false := by rw [beq_eq_false_iff_ne]; omega
      have htk := own_take (m := z + 1) HAB2.out.opn rfl (by have := HLE.out; omega)
      have hs := HAB2.out.setOpen (o' := .slice (some ⟨go, 0, none⟩) (opn'.take (z + 1)).length oc) ⟨rfl, rfl, rfl, Nat.le_refl _, fun _ _ _ => rfl⟩ htk (.inl rfl)
      have hlt : (opn'.take (z + 1)).length = z + 1 := by rw [List.length_take]; have := HLE.out; omega
      rw [hlt] at hs
      have HS := hide hs
      have HLT := hide hlt
      clear htk hs hlt hle2
      have hz1 : z + 1 ≤ m := HLE.out
      have hst9 : m + 1 = st'.length := by have := HBD.out; have := HMM.out; omega
      have hfd : findP (closesB x.data.toList) st' = some (m + 1 - (z + 1)) := by rw [HFD.out, if_neg (Nat.succ_ne_zero z)]
      have hok9 := arOK_closeN (m + 1 - (z + 1)) opn' st' HR.out.ok (by omega)
      rw [HMM.out, show m + 1 - (m + 1 - (z + 1)) = z + 1 by omega] at hok9
      have hoks9 : OkS (closeN (m + 1 - (z + 1)) st', n) := by
        obtain ⟨k1, k2, k3, k4⟩ := HR.out.oks
        have hcl := closeN_length (m + 1 - (z + 1)) st' (by omega)
        refine ⟨fun e => ?_, ?_, k3, ?_⟩
        · have e : closeN (m + 1 - (z + 1)) st' = [] := e
          rw [e, List.length_nil] at hcl; omega
        · show stW (closeN (m + 1 - (z + 1)) st') ≤ n
          rw [closeN_wt]; exact k2
        · show (closeN (m + 1 - (z + 1)) st').length ≤ 31
          have k4 : st'.length ≤ 31 := k4
          omega
      have hclo9 : closeAll (closesB x.data.toList) (closeN (m + 1 - (z + 1)) st').length (closeN (m + 1 - (z + 1)) st') = F := by
        rw [← closeAll_step hfd]; exact HR.out.clo
      have HNEW : Hid (StI B b (.slice (some ⟨g, 0, none⟩) l.length rc) l n F (closesB x.data.toList) W0 W (w2.setCell ⟨b, 1, none⟩ (.slice (some ⟨go, 0, none⟩) (z + 1) oc)) w.heap.size #[.int .i64 k, .string x, .slice avA at'.length avc, .string y] (.slice (some ⟨go, 0, none⟩) (z + 1) oc) (opn'.take (z + 1)) (closeN (m + 1 - (z + 1)) st')) :=
        hide ⟨HS.out, hok9, hoks9, hclo9, (Below.heap_setCell w2 ⟨b, 1, none⟩ _ w.heap.size (fun e => by
          have e : w.heap.size = b := e
          have h9 := HTK2.out
          rw [e] at h9
          exact hole_block HAB2.out.blk _ _ (by decide) h9)).trans HTK2.out, by rw [World.size_setCell]; exact Nat.le_trans HR.out.size HB2.out.size⟩
      clear hst9 hfd hok9 hoks9 hclo9
      go_wp2_with fail
      go_roundg (z + 1)
      case rel => exact ⟨_, _, _, HLT.out, HNEW⟩
      case measure => have := HMM.out; omega
end Go.Proofs.YtiejmkjpgjbodaaGreatDoor

namespace Go.Proofs.YtiejmkjpgjbodaaGreatDoor
set_option linter.unusedVariables false
set_option linter.unusedSimpArgs false
theorem alnum_ends (c : UInt8) (h : (letterB c || digitB c) = true) : attrEndB c = false ∧ whs c = false ∧ c ≠ 62 ∧ c ≠ 47 ∧ c ≠ 33 ∧ c ≠ 63 ∧ nameEndB c = false :=
  u8_all (p := fun c => (letterB c || digitB c) = true → (attrEndB c = false ∧ whs c = false ∧ c ≠ 62 ∧ c ≠ 47 ∧ c ≠ 33 ∧ c ≠ 63 ∧ nameEndB c = false)) (by decide +kernel) c h
theorem markL_start {dec : List UInt8 → List UInt8} {c : UInt8} (h : letterB c = true) (r : List UInt8) : markL dec (c :: r) = startL dec (c :: r) := by
  have := alnum_ends c (by rw [h]; rfl)
  unfold markL
  split
  · rename_i q heq; injection heq with h1 h2; exact absurd h1 this.2.2.2.1
  · rename_i q heq; injection heq with h1 h2; exact absurd h1 this.2.2.2.2.1
  · rename_i q heq; injection heq with h1 h2; exact absurd h1 this.2.2.2.2.2.1
  · rfl
end Go.Proofs.YtiejmkjpgjbodaaGreatDoor

namespace Go.Proofs.YtiejmkjpgjbodaaGreatDoor
open Go.RowKit
set_option linter.unusedVariables false
theorem size0 {t : ByteArray} (h : t.size = 0) : t.data.toList = [] ∧ t.toList.isEmpty = true := by
  have e : t.data.toList = [] := List.eq_nil_of_length_eq_zero (by rw [toList_length]; exact h)
  exact ⟨e, by rw [bytes_list, e]; rfl⟩
theorem sizeP {t : ByteArray} (h : ¬ t.size = 0) : t.data.toList ≠ [] ∧ t.toList.isEmpty = false := by
  have hne : t.data.toList ≠ [] := fun e => by have := toList_length t; rw [e] at this; simp at this; omega
  refine ⟨hne, ?_⟩
  rw [bytes_list]
  cases h : t.data.toList with
  | nil => exact absurd h hne
  | cons _ _ => rfl
theorem or32 (c : UInt8) : bits .or .u8 (c.toNat : Int) 32 = ((c ||| 32).toNat : Int) := u8_all (p := fun c => bits .or .u8 (c.toNat : Int) 32 = ((c ||| 32).toNat : Int)) (by decide +kernel) c
end Go.Proofs.YtiejmkjpgjbodaaGreatDoor

namespace Go.Proofs.YtiejmkjpgjbodaaGreatDoor
open Go.RowKit
set_option linter.unusedVariables false
set_option linter.unusedSimpArgs false
set_option maxRecDepth 100000
def dgV (c : UInt8) : Nat := if 48 ≤ c.toNat ∧ c.toNat ≤ 57 then c.toNat - 48 else if 97 ≤ (c ||| 32).toNat ∧ (c ||| 32).toNat ≤ 122 then (c ||| 32).toNat - 87 else 255
def digB (b : Nat) (c : UInt8) : Option Nat := if dgV c < b then some (dgV c) else none
def parseB (b : Nat) : Nat → List UInt8 → Option Nat
  | n, [] => some n
  | n, c :: r => match digB b c with
    | none => none
    | some d => parseB b (n * b + d) r
def uTup : Option Nat → Value
  | some n => .tuple #[.int .u64 n, .nilIface]
  | none => .tuple #[.int .u64 0, .iface 238 (.int .i64 2)]
theorem par_step {b n d k : Nat} (h : n + 1 ≤ b ^ k) (hd : d < b) : n * b + d + 1 ≤ b ^ (k + 1) := by
  have h1 : (n + 1) * b ≤ b ^ k * b := Nat.mul_le_mul_right b h
  rw [Nat.pow_succ]
  rw [Nat.succ_mul] at h1
  omega
set_option maxHeartbeats 4000000 in
theorem iparse10_any (s : ByteArray) (w : World) (hs : s.size ≤ 8) (h0 : s.size ≠ 0) :
    Calls Tryz.prog 193 #[.string s, .int .i64 10, .int .i64 32] w fun e w' => e = .returned (uTup (parseB 10 0 s.data.toList)) ∧ Below w.heap.size w w' := by
  have hemp : s.toList.isEmpty = false := (sizeP h0).2
  go_enter Tryz.func193, Tryz.ntmps193
  go_wp2_with (refine wpList_bytes rfl _ rfl s rfl ?_; intro cap w0 ha0; have HA0 := hide ha0; clear ha0)
  go_loopw [12, 13, 101] (fun un nv i wr => ∃ k n : Nat, un = .bool false ∧ k ≤ s.size ∧ i = .int .i64 k ∧ nv = .int .u64 n ∧ Hid (n + 1 ≤ 10 ^ k) ∧ Hid (parseB 10 n (s.data.toList.drop k) = parseB 10 0 s.data.toList) ∧ Hid (wr = w0)) (fun _ _ i _ => s.size - (intOf i).toNat)
  case atStart => exact ⟨0, 0, rfl, Nat.zero_le _, rfl, rfl, hide (Nat.le_refl _), hide rfl, hide rfl⟩
  case round =>
    obtain ⟨k, n, rfl, hk, rfl, rfl, HP, HG, HW⟩ := hrel
    obtain rfl := HW.out
    by_cases hlt : k < s.size
    · have hst := HG.out
      rw [drop_cons s k hlt, parseB] at hst
      have c1 : wr.cell? ⟨w.heap.size, k, none⟩ = some (.int .u8 s[k].toNat) := HA0.out.cell k (by rw [toList_length]; exact hlt)
      by_cases g1 : 48 ≤ s[k].toNat ∧ s[k].toNat ≤ 57
      · obtain ⟨d, hd⟩ : ∃ d, s[k].toNat = 48 + d := ⟨s[k].toNat - 48, by omega⟩
        have t1 : decide ((48 : Int) ≤ s[k].toNat) = true := decide_eq_true (by omega)
        have t2 : decide ((s[k].toNat : Int) ≤ 57) = true := decide_eq_true (by omega)
        have t3 : ((s[k].toNat : Int) == 95) = false := beq_eq_false_iff_ne.2 (by omega)
        have wd : IntKind.u8.wrap ((s[k].toNat : Int) - 48) = (d : Int) := by rw [hd]; rw [show ((48 + d : Nat) : Int) - 48 = d by omega]; exact IntWalk.u8_in _ (by omega)
        have hdl : d < 10 := by omega
        have hdb : digB 10 s[k] = some d := by unfold digB dgV; rw [if_pos g1]; rw [if_pos (by omega)]; exact congrArg some (by omega)
        rw [hdb] at hst
        have HN : Hid (parseB 10 (n * 10 + d) (s.data.toList.drop (k + 1)) = parseB 10 0 s.data.toList) := hide hst
        have HB1 : Hid (n * 10 + d + 1 ≤ 10 ^ (k + 1)) := hide (par_step HP.out hdl)
        have hb2 : n * 10 + d + 1 ≤ 4294967296 := Nat.le_trans HB1.out (Nat.le_trans (Nat.pow_le_pow_right (by decide) (by omega : k + 1 ≤ 8)) (by decide))
        have x0 : IntKind.u64.wrap (d : Int) = (d : Int) := IntWalk.u64_in _ (by omega)
        have x1 : IntKind.u64.wrap ((n : Int) * 10) = (n : Int) * 10 := IntWalk.u64_in _ (by omega)
        have x2 : IntKind.u64.wrap ((n : Int) * 10 + (d : Int)) = (n : Int) * 10 + d := IntWalk.u64_in _ (by omega)
        have x3 : decide ((n : Int) * 10 + (d : Int) < (n : Int) * 10) = false := decide_eq_false (by omega)
        have x4 : decide ((4294967295 : Int) < (n : Int) * 10 + (d : Int)) = false := decide_eq_false (by omega)
        have x5 : decide ((10 : Int) ≤ (d : Int)) = false := decide_eq_false (by omega)
        have x6 : decide ((1844674407370955162 : Int) ≤ (n : Int)) = false := decide_eq_false (by omega)
        clear hst hdb hdl hb2
        clear hd g1
        go_wp2_with fail
        go_roundw
        case rel => exact ⟨k + 1, n * 10 + d, rfl, by omega, by go_num, by first | rfl | simp, HB1, HN, by first | exact trivial | exact hide rfl⟩
        case measure => simp [intOf]; omega
      · have t1 : (decide ((48 : Int) ≤ s[k].toNat) && decide ((s[k].toNat : Int) ≤ 57)) = false := by
          cases q1 : decide ((48 : Int) ≤ s[k].toNat) with
          | false => rfl
          | true =>
            have := of_decide_eq_true q1
            rw [Bool.true_and]; exact decide_eq_false (by omega)
        obtain ⟨L, hL⟩ : ∃ L, (s[k] ||| 32).toNat = L := ⟨_, rfl⟩
        have ho : bits .or .u8 (s[k].toNat : Int) 32 = (L : Int) := by rw [or32, hL]
        have HC := hide (fun w1 => Tryz.internal_strconv_lower (s[k].toNat : Int) w1)
        rw [ho] at HC
        have t3 : (decide ((s[k].toNat : Int) = 95)) = decide (s[k].toNat = 95) := by congr 1; exact propext (by omega)
        have hdv : dgV s[k] = if 97 ≤ L ∧ L ≤ 122 then L - 87 else 255 := by unfold dgV; rw [if_neg g1, hL]
        have hLl : L < 256 := by rw [← hL]; exact byte_lt _
        by_cases q1 : (48 : Int) ≤ s[k].toNat
        · have q1' : decide ((48 : Int) ≤ s[k].toNat) = true := decide_eq_true q1
          have q2' : decide ((s[k].toNat : Int) ≤ 57) = false := decide_eq_false (by omega)
          clear t1 t3
          by_cases u : s[k].toNat = 95
          · have u' : ((s[k].toNat : Int) == 95) = true := by rw [beq_iff_eq]; omega
            have hL95 : L = 127 := by rw [← hL, show s[k] = 95 from UInt8.toNat_inj.1 u]; rfl
            have hv : dgV s[k] = 255 := by rw [hdv, if_neg (by omega)]
            have hbad : digB 10 s[k] = none := by unfold digB; rw [hv]; rfl
            rw [hbad] at hst
            have HR : Hid (parseB 10 0 s.data.toList = none) := hide hst.symm
            have l1 : decide ((97 : Int) ≤ L) = true := decide_eq_true (by omega)
            have l2 : decide ((L : Int) ≤ 122) = false := decide_eq_false (by omega)
            clear hst hbad hv hdv hL ho u g1 q1
            go_wp2_with (go_at_call 220; refine (HC.out _).mono ?_; rintro e w1 ⟨rfl, hw1⟩; obtain rfl := hw1.symm)
            go_ret2
            exact ⟨by rw [HR.out]; rfl, HA0.out.below⟩
          have u' : ((s[k].toNat : Int) == 95) = false := beq_eq_false_iff_ne.2 (by omega)
          by_cases l1 : 97 ≤ L
          · have l1' : decide ((97 : Int) ≤ L) = true := decide_eq_true (by omega)
            by_cases l2 : L ≤ 122
            · have l2' : decide ((L : Int) ≤ 122) = true := decide_eq_true (by omega)
              rw [if_pos ⟨l1, l2⟩] at hdv
              obtain ⟨d, hd⟩ : ∃ d, L = 87 + d := ⟨L - 87, by omega⟩
              have y1 : IntKind.u8.wrap ((L : Int) - 97) = ((d - 10 : Nat) : Int) := by rw [show (L : Int) - 97 = ((d - 10 : Nat) : Int) by omega]; exact IntWalk.u8_in _ (by omega)
              have y2 : IntKind.u8.wrap (((d - 10 : Nat) : Int) + 10) = (d : Int) := by rw [show ((d - 10 : Nat) : Int) + 10 = (d : Int) by omega]; exact IntWalk.u8_in _ (by omega)
              by_cases hdl : d < 10
              · clear q1
                have hdb : digB 10 s[k] = some d := by unfold digB; rw [hdv, if_pos (by omega)]; exact congrArg some (by omega)
                rw [hdb] at hst
                have HN : Hid (parseB 10 (n * 10 + d) (s.data.toList.drop (k + 1)) = parseB 10 0 s.data.toList) := hide hst
                have HB1 : Hid (n * 10 + d + 1 ≤ 10 ^ (k + 1)) := hide (par_step HP.out hdl)
                have hb2 : n * 10 + d + 1 ≤ 4294967296 := Nat.le_trans HB1.out (Nat.le_trans (Nat.pow_le_pow_right (by decide) (by omega : k + 1 ≤ 8)) (by decide))
                have x0 : IntKind.u64.wrap (d : Int) = (d : Int) := IntWalk.u64_in _ (by omega)
                have x1 : IntKind.u64.wrap ((n : Int) * 10) = (n : Int) * 10 := IntWalk.u64_in _ (by omega)
                have x2 : IntKind.u64.wrap ((n : Int) * 10 + (d : Int)) = (n : Int) * 10 + d := IntWalk.u64_in _ (by omega)
                have x3 : decide ((n : Int) * 10 + (d : Int) < (n : Int) * 10) = false := decide_eq_false (by omega)
                have x4 : decide ((4294967295 : Int) < (n : Int) * 10 + (d : Int)) = false := decide_eq_false (by omega)
                have x5 : decide ((10 : Int) ≤ (d : Int)) = false := decide_eq_false (by omega)
                have x6 : decide ((1844674407370955162 : Int) ≤ (n : Int)) = false := decide_eq_false (by omega)
                clear hst hdb hdl hb2
                clear hdv hL ho u g1 hd
                go_wp2_with (go_at_call 220; refine (HC.out _).mono ?_; rintro e w1 ⟨rfl, hw1⟩; obtain rfl := hw1.symm)
                go_roundw
                case rel => exact ⟨k + 1, n * 10 + d, rfl, by omega, by go_num, by first | rfl | simp, HB1, HN, by first | exact trivial | exact hide rfl⟩
                case measure => simp [intOf]; omega
              · have hbad : digB 10 s[k] = none := by unfold digB; rw [hdv, if_neg (by omega)]
                rw [hbad] at hst
                have HR : Hid (parseB 10 0 s.data.toList = none) := hide hst.symm
                have x5 : decide ((10 : Int) ≤ (d : Int)) = true := decide_eq_true (by omega)
                clear hst hbad hdv hL ho u g1 q1 hdl hd
                go_wp2_with (go_at_call 220; refine (HC.out _).mono ?_; rintro e w1 ⟨rfl, hw1⟩; obtain rfl := hw1.symm)
                go_ret2
                exact ⟨by rw [HR.out]; rfl, HA0.out.below⟩
            · have l2' : decide ((L : Int) ≤ 122) = false := decide_eq_false (by omega)
              have hv : dgV s[k] = 255 := by rw [hdv, if_neg (by omega)]
              have hbad : digB 10 s[k] = none := by unfold digB; rw [hv]; rfl
              rw [hbad] at hst
              have HR : Hid (parseB 10 0 s.data.toList = none) := hide hst.symm
              clear hst hbad hv hdv hL ho u g1 q1
              go_wp2_with (go_at_call 220; refine (HC.out _).mono ?_; rintro e w1 ⟨rfl, hw1⟩; obtain rfl := hw1.symm)
              go_ret2
              exact ⟨by rw [HR.out]; rfl, HA0.out.below⟩
          · have l1' : decide ((97 : Int) ≤ L) = false := decide_eq_false (by omega)
            have hv : dgV s[k] = 255 := by rw [hdv, if_neg (by omega)]
            have hbad : digB 10 s[k] = none := by unfold digB; rw [hv]; rfl
            rw [hbad] at hst
            have HR : Hid (parseB 10 0 s.data.toList = none) := hide hst.symm
            clear hst hbad hv hdv hL ho u g1 q1
            go_wp2_with (go_at_call 220; refine (HC.out _).mono ?_; rintro e w1 ⟨rfl, hw1⟩; obtain rfl := hw1.symm)
            go_ret2
            exact ⟨by rw [HR.out]; rfl, HA0.out.below⟩
        · have q1' : decide ((48 : Int) ≤ s[k].toNat) = false := decide_eq_false q1
          clear t1 t3
          by_cases u : s[k].toNat = 95
          · have u' : ((s[k].toNat : Int) == 95) = true := by rw [beq_iff_eq]; omega
            have hL95 : L = 127 := by rw [← hL, show s[k] = 95 from UInt8.toNat_inj.1 u]; rfl
            have hv : dgV s[k] = 255 := by rw [hdv, if_neg (by omega)]
            have hbad : digB 10 s[k] = none := by unfold digB; rw [hv]; rfl
            rw [hbad] at hst
            have HR : Hid (parseB 10 0 s.data.toList = none) := hide hst.symm
            have l1 : decide ((97 : Int) ≤ L) = true := decide_eq_true (by omega)
            have l2 : decide ((L : Int) ≤ 122) = false := decide_eq_false (by omega)
            clear hst hbad hv hdv hL ho u g1 q1
            go_wp2_with (go_at_call 220; refine (HC.out _).mono ?_; rintro e w1 ⟨rfl, hw1⟩; obtain rfl := hw1.symm)
            go_ret2
            exact ⟨by rw [HR.out]; rfl, HA0.out.below⟩
          have u' : ((s[k].toNat : Int) == 95) = false := beq_eq_false_iff_ne.2 (by omega)
          by_cases l1 : 97 ≤ L
          · have l1' : decide ((97 : Int) ≤ L) = true := decide_eq_true (by omega)
            by_cases l2 : L ≤ 122
            · have l2' : decide ((L : Int) ≤ 122) = true := decide_eq_true (by omega)
              rw [if_pos ⟨l1, l2⟩] at hdv
              obtain ⟨d, hd⟩ : ∃ d, L = 87 + d := ⟨L - 87, by omega⟩
              have y1 : IntKind.u8.wrap ((L : Int) - 97) = ((d - 10 : Nat) : Int) := by rw [show (L : Int) - 97 = ((d - 10 : Nat) : Int) by omega]; exact IntWalk.u8_in _ (by omega)
              have y2 : IntKind.u8.wrap (((d - 10 : Nat) : Int) + 10) = (d : Int) := by rw [show ((d - 10 : Nat) : Int) + 10 = (d : Int) by omega]; exact IntWalk.u8_in _ (by omega)
              by_cases hdl : d < 10
              · clear q1
                have hdb : digB 10 s[k] = some d := by unfold digB; rw [hdv, if_pos (by omega)]; exact congrArg some (by omega)
                rw [hdb] at hst
                have HN : Hid (parseB 10 (n * 10 + d) (s.data.toList.drop (k + 1)) = parseB 10 0 s.data.toList) := hide hst
                have HB1 : Hid (n * 10 + d + 1 ≤ 10 ^ (k + 1)) := hide (par_step HP.out hdl)
                have hb2 : n * 10 + d + 1 ≤ 4294967296 := Nat.le_trans HB1.out (Nat.le_trans (Nat.pow_le_pow_right (by decide) (by omega : k + 1 ≤ 8)) (by decide))
                have x0 : IntKind.u64.wrap (d : Int) = (d : Int) := IntWalk.u64_in _ (by omega)
                have x1 : IntKind.u64.wrap ((n : Int) * 10) = (n : Int) * 10 := IntWalk.u64_in _ (by omega)
                have x2 : IntKind.u64.wrap ((n : Int) * 10 + (d : Int)) = (n : Int) * 10 + d := IntWalk.u64_in _ (by omega)
                have x3 : decide ((n : Int) * 10 + (d : Int) < (n : Int) * 10) = false := decide_eq_false (by omega)
                have x4 : decide ((4294967295 : Int) < (n : Int) * 10 + (d : Int)) = false := decide_eq_false (by omega)
                have x5 : decide ((10 : Int) ≤ (d : Int)) = false := decide_eq_false (by omega)
                have x6 : decide ((1844674407370955162 : Int) ≤ (n : Int)) = false := decide_eq_false (by omega)
                clear hst hdb hdl hb2
                clear hdv hL ho u g1 hd
                go_wp2_with (go_at_call 220; refine (HC.out _).mono ?_; rintro e w1 ⟨rfl, hw1⟩; obtain rfl := hw1.symm)
                go_roundw
                case rel => exact ⟨k + 1, n * 10 + d, rfl, by omega, by go_num, by first | rfl | simp, HB1, HN, by first | exact trivial | exact hide rfl⟩
                case measure => simp [intOf]; omega
              · have hbad : digB 10 s[k] = none := by unfold digB; rw [hdv, if_neg (by omega)]
                rw [hbad] at hst
                have HR : Hid (parseB 10 0 s.data.toList = none) := hide hst.symm
                have x5 : decide ((10 : Int) ≤ (d : Int)) = true := decide_eq_true (by omega)
                clear hst hbad hdv hL ho u g1 q1 hdl hd
                go_wp2_with (go_at_call 220; refine (HC.out _).mono ?_; rintro e w1 ⟨rfl, hw1⟩; obtain rfl := hw1.symm)
                go_ret2
                exact ⟨by rw [HR.out]; rfl, HA0.out.below⟩
            · have l2' : decide ((L : Int) ≤ 122) = false := decide_eq_false (by omega)
              have hv : dgV s[k] = 255 := by rw [hdv, if_neg (by omega)]
              have hbad : digB 10 s[k] = none := by unfold digB; rw [hv]; rfl
              rw [hbad] at hst
              have HR : Hid (parseB 10 0 s.data.toList = none) := hide hst.symm
              clear hst hbad hv hdv hL ho u g1 q1
              go_wp2_with (go_at_call 220; refine (HC.out _).mono ?_; rintro e w1 ⟨rfl, hw1⟩; obtain rfl := hw1.symm)
              go_ret2
              exact ⟨by rw [HR.out]; rfl, HA0.out.below⟩
          · have l1' : decide ((97 : Int) ≤ L) = false := decide_eq_false (by omega)
            have hv : dgV s[k] = 255 := by rw [hdv, if_neg (by omega)]
            have hbad : digB 10 s[k] = none := by unfold digB; rw [hv]; rfl
            rw [hbad] at hst
            have HR : Hid (parseB 10 0 s.data.toList = none) := hide hst.symm
            clear hst hbad hv hdv hL ho u g1 q1
            go_wp2_with (go_at_call 220; refine (HC.out _).mono ?_; rintro e w1 ⟨rfl, hw1⟩; obtain rfl := hw1.symm)
            go_ret2
            exact ⟨by rw [HR.out]; rfl, HA0.out.below⟩
    · have hk2 : k = s.size := by omega
      have HR : Hid (parseB 10 0 s.data.toList = some n) := hide (by rw [← HG.out, drop_nil s k (by omega)]; rfl)
      clear hk2
      go_wp2_with fail
      go_ret2
      exact ⟨by rw [HR.out]; rfl, HA0.out.below⟩
set_option maxHeartbeats 4000000 in
theorem iparse16_any (s : ByteArray) (w : World) (hs : s.size ≤ 8) (h0 : s.size ≠ 0) :
    Calls Tryz.prog 193 #[.string s, .int .i64 16, .int .i64 32] w fun e w' => e = .returned (uTup (parseB 16 0 s.data.toList)) ∧ Below w.heap.size w w' := by
  have hemp : s.toList.isEmpty = false := (sizeP h0).2
  go_enter Tryz.func193, Tryz.ntmps193
  go_wp2_with (refine wpList_bytes rfl _ rfl s rfl ?_; intro cap w0 ha0; have HA0 := hide ha0; clear ha0)
  go_loopw [12, 13, 101] (fun un nv i wr => ∃ k n : Nat, un = .bool false ∧ k ≤ s.size ∧ i = .int .i64 k ∧ nv = .int .u64 n ∧ Hid (n + 1 ≤ 16 ^ k) ∧ Hid (parseB 16 n (s.data.toList.drop k) = parseB 16 0 s.data.toList) ∧ Hid (wr = w0)) (fun _ _ i _ => s.size - (intOf i).toNat)
  case atStart => exact ⟨0, 0, rfl, Nat.zero_le _, rfl, rfl, hide (Nat.le_refl _), hide rfl, hide rfl⟩
  case round =>
    obtain ⟨k, n, rfl, hk, rfl, rfl, HP, HG, HW⟩ := hrel
    obtain rfl := HW.out
    by_cases hlt : k < s.size
    · have hst := HG.out
      rw [drop_cons s k hlt, parseB] at hst
      have c1 : wr.cell? ⟨w.heap.size, k, none⟩ = some (.int .u8 s[k].toNat) := HA0.out.cell k (by rw [toList_length]; exact hlt)
      by_cases g1 : 48 ≤ s[k].toNat ∧ s[k].toNat ≤ 57
      · obtain ⟨d, hd⟩ : ∃ d, s[k].toNat = 48 + d := ⟨s[k].toNat - 48, by omega⟩
        have t1 : decide ((48 : Int) ≤ s[k].toNat) = true := decide_eq_true (by omega)
        have t2 : decide ((s[k].toNat : Int) ≤ 57) = true := decide_eq_true (by omega)
        have t3 : ((s[k].toNat : Int) == 95) = false := beq_eq_false_iff_ne.2 (by omega)
        have wd : IntKind.u8.wrap ((s[k].toNat : Int) - 48) = (d : Int) := by rw [hd]; rw [show ((48 + d : Nat) : Int) - 48 = d by omega]; exact IntWalk.u8_in _ (by omega)
        have hdl : d < 16 := by omega
        have hdb : digB 16 s[k] = some d := by unfold digB dgV; rw [if_pos g1]; rw [if_pos (by omega)]; exact congrArg some (by omega)
        rw [hdb] at hst
        have HN : Hid (parseB 16 (n * 16 + d) (s.data.toList.drop (k + 1)) = parseB 16 0 s.data.toList) := hide hst
        have HB1 : Hid (n * 16 + d + 1 ≤ 16 ^ (k + 1)) := hide (par_step HP.out hdl)
        have hb2 : n * 16 + d + 1 ≤ 4294967296 := Nat.le_trans HB1.out (Nat.le_trans (Nat.pow_le_pow_right (by decide) (by omega : k + 1 ≤ 8)) (by decide))
        have x0 : IntKind.u64.wrap (d : Int) = (d : Int) := IntWalk.u64_in _ (by omega)
        have x1 : IntKind.u64.wrap ((n : Int) * 16) = (n : Int) * 16 := IntWalk.u64_in _ (by omega)
        have x2 : IntKind.u64.wrap ((n : Int) * 16 + (d : Int)) = (n : Int) * 16 + d := IntWalk.u64_in _ (by omega)
        have x3 : decide ((n : Int) * 16 + (d : Int) < (n : Int) * 16) = false := decide_eq_false (by omega)
        have x4 : decide ((4294967295 : Int) < (n : Int) * 16 + (d : Int)) = false := decide_eq_false (by omega)
        have x5 : decide ((16 : Int) ≤ (d : Int)) = false := decide_eq_false (by omega)
        have x6 : decide ((1152921504606846976 : Int) ≤ (n : Int)) = false := decide_eq_false (by omega)
        clear hst hdb hdl hb2
        clear hd g1
        go_wp2_with fail
        go_roundw
        case rel => exact ⟨k + 1, n * 16 + d, rfl, by omega, by go_num, by first | rfl | simp, HB1, HN, by first | exact trivial | exact hide rfl⟩
        case measure => simp [intOf]; omega
      · have t1 : (decide ((48 : Int) ≤ s[k].toNat) && decide ((s[k].toNat : Int) ≤ 57)) = false := by
          cases q1 : decide ((48 : Int) ≤ s[k].toNat) with
          | false => rfl
          | true =>
            have := of_decide_eq_true q1
            rw [Bool.true_and]; exact decide_eq_false (by omega)
        obtain ⟨L, hL⟩ : ∃ L, (s[k] ||| 32).toNat = L := ⟨_, rfl⟩
        have ho : bits .or .u8 (s[k].toNat : Int) 32 = (L : Int) := by rw [or32, hL]
        have HC := hide (fun w1 => Tryz.internal_strconv_lower (s[k].toNat : Int) w1)
        rw [ho] at HC
        have t3 : (decide ((s[k].toNat : Int) = 95)) = decide (s[k].toNat = 95) := by congr 1; exact propext (by omega)
        have hdv : dgV s[k] = if 97 ≤ L ∧ L ≤ 122 then L - 87 else 255 := by unfold dgV; rw [if_neg g1, hL]
        have hLl : L < 256 := by rw [← hL]; exact byte_lt _
        by_cases q1 : (48 : Int) ≤ s[k].toNat
        · have q1' : decide ((48 : Int) ≤ s[k].toNat) = true := decide_eq_true q1
          have q2' : decide ((s[k].toNat : Int) ≤ 57) = false := decide_eq_false (by omega)
          clear t1 t3
          by_cases u : s[k].toNat = 95
          · have u' : ((s[k].toNat : Int) == 95) = true := by rw [beq_iff_eq]; omega
            have hL95 : L = 127 := by rw [← hL, show s[k] = 95 from UInt8.toNat_inj.1 u]; rfl
            have hv : dgV s[k] = 255 := by rw [hdv, if_neg (by omega)]
            have hbad : digB 16 s[k] = none := by unfold digB; rw [hv]; rfl
            rw [hbad] at hst
            have HR : Hid (parseB 16 0 s.data.toList = none) := hide hst.symm
            have l1 : decide ((97 : Int) ≤ L) = true := decide_eq_true (by omega)
            have l2 : decide ((L : Int) ≤ 122) = false := decide_eq_false (by omega)
            clear hst hbad hv hdv hL ho u g1 q1
            go_wp2_with (go_at_call 220; refine (HC.out _).mono ?_; rintro e w1 ⟨rfl, hw1⟩; obtain rfl := hw1.symm)
            go_ret2
            exact ⟨by rw [HR.out]; rfl, HA0.out.below⟩
          have u' : ((s[k].toNat : Int) == 95) = false := beq_eq_false_iff_ne.2 (by omega)
          by_cases l1 : 97 ≤ L
          · have l1' : decide ((97 : Int) ≤ L) = true := decide_eq_true (by omega)
            by_cases l2 : L ≤ 122
            · have l2' : decide ((L : Int) ≤ 122) = true := decide_eq_true (by omega)
              rw [if_pos ⟨l1, l2⟩] at hdv
              obtain ⟨d, hd⟩ : ∃ d, L = 87 + d := ⟨L - 87, by omega⟩
              have y1 : IntKind.u8.wrap ((L : Int) - 97) = ((d - 10 : Nat) : Int) := by rw [show (L : Int) - 97 = ((d - 10 : Nat) : Int) by omega]; exact IntWalk.u8_in _ (by omega)
              have y2 : IntKind.u8.wrap (((d - 10 : Nat) : Int) + 10) = (d : Int) := by rw [show ((d - 10 : Nat) : Int) + 10 = (d : Int) by omega]; exact IntWalk.u8_in _ (by omega)
              by_cases hdl : d < 16
              · clear q1
                have hdb : digB 16 s[k] = some d := by unfold digB; rw [hdv, if_pos (by omega)]; exact congrArg some (by omega)
                rw [hdb] at hst
                have HN : Hid (parseB 16 (n * 16 + d) (s.data.toList.drop (k + 1)) = parseB 16 0 s.data.toList) := hide hst
                have HB1 : Hid (n * 16 + d + 1 ≤ 16 ^ (k + 1)) := hide (par_step HP.out hdl)
                have hb2 : n * 16 + d + 1 ≤ 4294967296 := Nat.le_trans HB1.out (Nat.le_trans (Nat.pow_le_pow_right (by decide) (by omega : k + 1 ≤ 8)) (by decide))
                have x0 : IntKind.u64.wrap (d : Int) = (d : Int) := IntWalk.u64_in _ (by omega)
                have x1 : IntKind.u64.wrap ((n : Int) * 16) = (n : Int) * 16 := IntWalk.u64_in _ (by omega)
                have x2 : IntKind.u64.wrap ((n : Int) * 16 + (d : Int)) = (n : Int) * 16 + d := IntWalk.u64_in _ (by omega)
                have x3 : decide ((n : Int) * 16 + (d : Int) < (n : Int) * 16) = false := decide_eq_false (by omega)
                have x4 : decide ((4294967295 : Int) < (n : Int) * 16 + (d : Int)) = false := decide_eq_false (by omega)
                have x5 : decide ((16 : Int) ≤ (d : Int)) = false := decide_eq_false (by omega)
                have x6 : decide ((1152921504606846976 : Int) ≤ (n : Int)) = false := decide_eq_false (by omega)
                clear hst hdb hdl hb2
                clear hdv hL ho u g1 hd
                go_wp2_with (go_at_call 220; refine (HC.out _).mono ?_; rintro e w1 ⟨rfl, hw1⟩; obtain rfl := hw1.symm)
                go_roundw
                case rel => exact ⟨k + 1, n * 16 + d, rfl, by omega, by go_num, by first | rfl | simp, HB1, HN, by first | exact trivial | exact hide rfl⟩
                case measure => simp [intOf]; omega
              · have hbad : digB 16 s[k] = none := by unfold digB; rw [hdv, if_neg (by omega)]
                rw [hbad] at hst
                have HR : Hid (parseB 16 0 s.data.toList = none) := hide hst.symm
                have x5 : decide ((16 : Int) ≤ (d : Int)) = true := decide_eq_true (by omega)
                clear hst hbad hdv hL ho u g1 q1 hdl hd
                go_wp2_with (go_at_call 220; refine (HC.out _).mono ?_; rintro e w1 ⟨rfl, hw1⟩; obtain rfl := hw1.symm)
                go_ret2
                exact ⟨by rw [HR.out]; rfl, HA0.out.below⟩
            · have l2' : decide ((L : Int) ≤ 122) = false := decide_eq_false (by omega)
              have hv : dgV s[k] = 255 := by rw [hdv, if_neg (by omega)]
              have hbad : digB 16 s[k] = none := by unfold digB; rw [hv]; rfl
              rw [hbad] at hst
              have HR : Hid (parseB 16 0 s.data.toList = none) := hide hst.symm
              clear hst hbad hv hdv hL ho u g1 q1
              go_wp2_with (go_at_call 220; refine (HC.out _).mono ?_; rintro e w1 ⟨rfl, hw1⟩; obtain rfl := hw1.symm)
              go_ret2
              exact ⟨by rw [HR.out]; rfl, HA0.out.below⟩
          · have l1' : decide ((97 : Int) ≤ L) = false := decide_eq_false (by omega)
            have hv : dgV s[k] = 255 := by rw [hdv, if_neg (by omega)]
            have hbad : digB 16 s[k] = none := by unfold digB; rw [hv]; rfl
            rw [hbad] at hst
            have HR : Hid (parseB 16 0 s.data.toList = none) := hide hst.symm
            clear hst hbad hv hdv hL ho u g1 q1
            go_wp2_with (go_at_call 220; refine (HC.out _).mono ?_; rintro e w1 ⟨rfl, hw1⟩; obtain rfl := hw1.symm)
            go_ret2
            exact ⟨by rw [HR.out]; rfl, HA0.out.below⟩
        · have q1' : decide ((48 : Int) ≤ s[k].toNat) = false := decide_eq_false q1
          clear t1 t3
          by_cases u : s[k].toNat = 95
          · have u' : ((s[k].toNat : Int) == 95) = true := by rw [beq_iff_eq]; omega
            have hL95 : L = 127 := by rw [← hL, show s[k] = 95 from UInt8.toNat_inj.1 u]; rfl
            have hv : dgV s[k] = 255 := by rw [hdv, if_neg (by omega)]
            have hbad : digB 16 s[k] = none := by unfold digB; rw [hv]; rfl
            rw [hbad] at hst
            have HR : Hid (parseB 16 0 s.data.toList = none) := hide hst.symm
            have l1 : decide ((97 : Int) ≤ L) = true := decide_eq_true (by omega)
            have l2 : decide ((L : Int) ≤ 122) = false := decide_eq_false (by omega)
            clear hst hbad hv hdv hL ho u g1 q1
            go_wp2_with (go_at_call 220; refine (HC.out _).mono ?_; rintro e w1 ⟨rfl, hw1⟩; obtain rfl := hw1.symm)
            go_ret2
            exact ⟨by rw [HR.out]; rfl, HA0.out.below⟩
          have u' : ((s[k].toNat : Int) == 95) = false := beq_eq_false_iff_ne.2 (by omega)
          by_cases l1 : 97 ≤ L
          · have l1' : decide ((97 : Int) ≤ L) = true := decide_eq_true (by omega)
            by_cases l2 : L ≤ 122
            · have l2' : decide ((L : Int) ≤ 122) = true := decide_eq_true (by omega)
              rw [if_pos ⟨l1, l2⟩] at hdv
              obtain ⟨d, hd⟩ : ∃ d, L = 87 + d := ⟨L - 87, by omega⟩
              have y1 : IntKind.u8.wrap ((L : Int) - 97) = ((d - 10 : Nat) : Int) := by rw [show (L : Int) - 97 = ((d - 10 : Nat) : Int) by omega]; exact IntWalk.u8_in _ (by omega)
              have y2 : IntKind.u8.wrap (((d - 10 : Nat) : Int) + 10) = (d : Int) := by rw [show ((d - 10 : Nat) : Int) + 10 = (d : Int) by omega]; exact IntWalk.u8_in _ (by omega)
              by_cases hdl : d < 16
              · clear q1
                have hdb : digB 16 s[k] = some d := by unfold digB; rw [hdv, if_pos (by omega)]; exact congrArg some (by omega)
                rw [hdb] at hst
                have HN : Hid (parseB 16 (n * 16 + d) (s.data.toList.drop (k + 1)) = parseB 16 0 s.data.toList) := hide hst
                have HB1 : Hid (n * 16 + d + 1 ≤ 16 ^ (k + 1)) := hide (par_step HP.out hdl)
                have hb2 : n * 16 + d + 1 ≤ 4294967296 := Nat.le_trans HB1.out (Nat.le_trans (Nat.pow_le_pow_right (by decide) (by omega : k + 1 ≤ 8)) (by decide))
                have x0 : IntKind.u64.wrap (d : Int) = (d : Int) := IntWalk.u64_in _ (by omega)
                have x1 : IntKind.u64.wrap ((n : Int) * 16) = (n : Int) * 16 := IntWalk.u64_in _ (by omega)
                have x2 : IntKind.u64.wrap ((n : Int) * 16 + (d : Int)) = (n : Int) * 16 + d := IntWalk.u64_in _ (by omega)
                have x3 : decide ((n : Int) * 16 + (d : Int) < (n : Int) * 16) = false := decide_eq_false (by omega)
                have x4 : decide ((4294967295 : Int) < (n : Int) * 16 + (d : Int)) = false := decide_eq_false (by omega)
                have x5 : decide ((16 : Int) ≤ (d : Int)) = false := decide_eq_false (by omega)
                have x6 : decide ((1152921504606846976 : Int) ≤ (n : Int)) = false := decide_eq_false (by omega)
                clear hst hdb hdl hb2
                clear hdv hL ho u g1 hd
                go_wp2_with (go_at_call 220; refine (HC.out _).mono ?_; rintro e w1 ⟨rfl, hw1⟩; obtain rfl := hw1.symm)
                go_roundw
                case rel => exact ⟨k + 1, n * 16 + d, rfl, by omega, by go_num, by first | rfl | simp, HB1, HN, by first | exact trivial | exact hide rfl⟩
                case measure => simp [intOf]; omega
              · have hbad : digB 16 s[k] = none := by unfold digB; rw [hdv, if_neg (by omega)]
                rw [hbad] at hst
                have HR : Hid (parseB 16 0 s.data.toList = none) := hide hst.symm
                have x5 : decide ((16 : Int) ≤ (d : Int)) = true := decide_eq_true (by omega)
                clear hst hbad hdv hL ho u g1 q1 hdl hd
                go_wp2_with (go_at_call 220; refine (HC.out _).mono ?_; rintro e w1 ⟨rfl, hw1⟩; obtain rfl := hw1.symm)
                go_ret2
                exact ⟨by rw [HR.out]; rfl, HA0.out.below⟩
            · have l2' : decide ((L : Int) ≤ 122) = false := decide_eq_false (by omega)
              have hv : dgV s[k] = 255 := by rw [hdv, if_neg (by omega)]
              have hbad : digB 16 s[k] = none := by unfold digB; rw [hv]; rfl
              rw [hbad] at hst
              have HR : Hid (parseB 16 0 s.data.toList = none) := hide hst.symm
              clear hst hbad hv hdv hL ho u g1 q1
              go_wp2_with (go_at_call 220; refine (HC.out _).mono ?_; rintro e w1 ⟨rfl, hw1⟩; obtain rfl := hw1.symm)
              go_ret2
              exact ⟨by rw [HR.out]; rfl, HA0.out.below⟩
          · have l1' : decide ((97 : Int) ≤ L) = false := decide_eq_false (by omega)
            have hv : dgV s[k] = 255 := by rw [hdv, if_neg (by omega)]
            have hbad : digB 16 s[k] = none := by unfold digB; rw [hv]; rfl
            rw [hbad] at hst
            have HR : Hid (parseB 16 0 s.data.toList = none) := hide hst.symm
            clear hst hbad hv hdv hL ho u g1 q1
            go_wp2_with (go_at_call 220; refine (HC.out _).mono ?_; rintro e w1 ⟨rfl, hw1⟩; obtain rfl := hw1.symm)
            go_ret2
            exact ⟨by rw [HR.out]; rfl, HA0.out.below⟩
    · have hk2 : k = s.size := by omega
      have HR : Hid (parseB 16 0 s.data.toList = some n) := hide (by rw [← HG.out, drop_nil s k (by omega)]; rfl)
      clear hk2
      go_wp2_with fail
      go_ret2
      exact ⟨by rw [HR.out]; rfl, HA0.out.below⟩
def parseU (b : Nat) (l : List UInt8) : Option Nat := if l = [] then none else parseB b 0 l
def UOut (o : Option Nat) (e : Ending) : Prop :=
  match o with
  | some n => e = .returned (.tuple #[.int .u64 n, .nilIface])
  | none => ∃ N : Nat, e = .returned (.tuple #[.int .u64 0, .iface 240 (.pointer (some ⟨N, 0, none⟩))])
theorem iempty10_any (w : World) : Calls Tryz.prog 193 #[.string ⟨#[]⟩, .int .i64 10, .int .i64 32] w (fun e w' => e = .returned (uTup none) ∧ Below w.heap.size w w') := by
  go_enter Tryz.func193, Tryz.ntmps193
  go_wp2_with fail
  go_ret2
  exact ⟨rfl, Below.refl _ _⟩
set_option maxHeartbeats 2000000 in
theorem parse10_any (s : ByteArray) (ev : Value) (w : World) (hs : s.size ≤ 8) (hv : w.cell? ⟨1, 0, none⟩ = some ev) (hev : ev = .nilIface ∨ ∃ te pe, ev = .iface te pe) :
    Calls Tryz.prog 170 #[.string s, .int .i64 10, .int .i64 32] w fun e w' => UOut (parseU 10 s.data.toList) e ∧ Below w.heap.size w w' := by
  have HV := hide hv
  have HEV := hide hev
  have HS := hide hs
  have hlt : 1 < w.heap.size := by
    rcases Nat.lt_or_ge 1 w.heap.size with h1 | h1
    · exact h1
    · simp [World.cell?, Array.getElem?_eq_none h1] at hv
  have HLT := hide hlt
  clear hv hev hlt
  have bad : parseU 10 s.data.toList = none → Calls Tryz.prog 193 #[.string s, .int .i64 10, .int .i64 32] w (fun e w' => e = .returned (uTup none) ∧ Below w.heap.size w w') → Calls Tryz.prog 170 #[.string s, .int .i64 10, .int .i64 32] w fun e w' => UOut (parseU 10 s.data.toList) e ∧ Below w.heap.size w w' := by
    intro hn hc
    have HN := hide hn
    have HC := hide hc
    clear hn hc
    go_enter Tryz.func170, Tryz.ntmps170
    go_wp2_with (first
      | (go_at_call 193; refine HC.out.mono ?_; rintro e w1 ⟨rfl, hb1⟩; rw [show uTup none = .tuple #[.int .u64 0, .iface 238 (.int .i64 2)] from rfl]; have HB1 := hide hb1; clear hb1)
      | (go_at_call 194; refine (Tryz.strconv_toError_syntax _ s 10 32 ev _ (Nat.le_trans HS.out (by decide)) ((HB1.out.cell (p := ⟨1, 0, none⟩) HLT.out).trans HV.out) HEV.out).mono ?_; rintro e w2 ⟨N, rfl, _, _, hb2⟩; have HB2 := hide (HB1.out.trans (hb2.mono HB1.out.size)); clear hb2))
    go_ret2
    rw [HN.out]
    exact ⟨⟨N, rfl⟩, HB2.out⟩
  by_cases h0 : s.size = 0
  · have he : s = ⟨#[]⟩ := ext_list (size0 h0).1
    have hp : parseU 10 s.data.toList = none := by unfold parseU; rw [if_pos (size0 h0).1]
    refine bad hp ?_
    rw [he]
    exact iempty10_any w
  · have hp : parseU 10 s.data.toList = parseB 10 0 s.data.toList := by unfold parseU; rw [if_neg (sizeP h0).1]
    have hc := iparse10_any s w hs h0
    cases hr : parseB 10 0 s.data.toList with
    | none => rw [hr] at hp hc; exact bad hp hc
    | some n =>
      rw [hr] at hp hc
      have HP := hide hp
      have HC := hide hc
      clear hp hc bad hr
      go_enter Tryz.func170, Tryz.ntmps170
      go_wp2_with (go_at_call 193; refine HC.out.mono ?_; rintro e w1 ⟨rfl, hb1⟩; rw [show uTup (some n) = .tuple #[.int .u64 n, .nilIface] from rfl]; have HB1 := hide hb1; clear hb1)
      go_ret2
      rw [HP.out]
      exact ⟨rfl, HB1.out⟩
theorem iempty16_any (w : World) : Calls Tryz.prog 193 #[.string ⟨#[]⟩, .int .i64 16, .int .i64 32] w (fun e w' => e = .returned (uTup none) ∧ Below w.heap.size w w') := by
  go_enter Tryz.func193, Tryz.ntmps193
  go_wp2_with fail
  go_ret2
  exact ⟨rfl, Below.refl _ _⟩
set_option maxHeartbeats 2000000 in
theorem parse16_any (s : ByteArray) (ev : Value) (w : World) (hs : s.size ≤ 8) (hv : w.cell? ⟨1, 0, none⟩ = some ev) (hev : ev = .nilIface ∨ ∃ te pe, ev = .iface te pe) :
    Calls Tryz.prog 170 #[.string s, .int .i64 16, .int .i64 32] w fun e w' => UOut (parseU 16 s.data.toList) e ∧ Below w.heap.size w w' := by
  have HV := hide hv
  have HEV := hide hev
  have HS := hide hs
  have hlt : 1 < w.heap.size := by
    rcases Nat.lt_or_ge 1 w.heap.size with h1 | h1
    · exact h1
    · simp [World.cell?, Array.getElem?_eq_none h1] at hv
  have HLT := hide hlt
  clear hv hev hlt
  have bad : parseU 16 s.data.toList = none → Calls Tryz.prog 193 #[.string s, .int .i64 16, .int .i64 32] w (fun e w' => e = .returned (uTup none) ∧ Below w.heap.size w w') → Calls Tryz.prog 170 #[.string s, .int .i64 16, .int .i64 32] w fun e w' => UOut (parseU 16 s.data.toList) e ∧ Below w.heap.size w w' := by
    intro hn hc
    have HN := hide hn
    have HC := hide hc
    clear hn hc
    go_enter Tryz.func170, Tryz.ntmps170
    go_wp2_with (first
      | (go_at_call 193; refine HC.out.mono ?_; rintro e w1 ⟨rfl, hb1⟩; rw [show uTup none = .tuple #[.int .u64 0, .iface 238 (.int .i64 2)] from rfl]; have HB1 := hide hb1; clear hb1)
      | (go_at_call 194; refine (Tryz.strconv_toError_syntax _ s 16 32 ev _ (Nat.le_trans HS.out (by decide)) ((HB1.out.cell (p := ⟨1, 0, none⟩) HLT.out).trans HV.out) HEV.out).mono ?_; rintro e w2 ⟨N, rfl, _, _, hb2⟩; have HB2 := hide (HB1.out.trans (hb2.mono HB1.out.size)); clear hb2))
    go_ret2
    rw [HN.out]
    exact ⟨⟨N, rfl⟩, HB2.out⟩
  by_cases h0 : s.size = 0
  · have he : s = ⟨#[]⟩ := ext_list (size0 h0).1
    have hp : parseU 16 s.data.toList = none := by unfold parseU; rw [if_pos (size0 h0).1]
    refine bad hp ?_
    rw [he]
    exact iempty16_any w
  · have hp : parseU 16 s.data.toList = parseB 16 0 s.data.toList := by unfold parseU; rw [if_neg (sizeP h0).1]
    have hc := iparse16_any s w hs h0
    cases hr : parseB 16 0 s.data.toList with
    | none => rw [hr] at hp hc; exact bad hp hc
    | some n =>
      rw [hr] at hp hc
      have HP := hide hp
      have HC := hide hc
      clear hp hc bad hr
      go_enter Tryz.func170, Tryz.ntmps170
      go_wp2_with (go_at_call 193; refine HC.out.mono ?_; rintro e w1 ⟨rfl, hb1⟩; rw [show uTup (some n) = .tuple #[.int .u64 n, .nilIface] from rfl]; have HB1 := hide hb1; clear hb1)
      go_ret2
      rw [HP.out]
      exact ⟨rfl, HB1.out⟩
end Go.Proofs.YtiejmkjpgjbodaaGreatDoor

namespace Go.Proofs.YtiejmkjpgjbodaaGreatDoor
open Go.RowKit Go.Maps Go.WideShapes Go.WideMaps
set_option linter.unusedVariables false
set_option linter.unusedSimpArgs false
set_option maxRecDepth 100000
theorem keyedS : Keyed Tryz.prog 9 := string_keyed Tryz.underlying9
theorem zeroR (w : World) : (zeroValue 21).run Tryz.prog w = .ok (.int .i32 0) w := by kernel_rfl
def SMapN (w : World) (b n : Nat) (f : List UInt8 → Option Int) : Prop :=
  ∃ D : DataW Unit, w.ownsMap Tryz.prog 9 (plainElem Tryz.prog 21) b n D ∧ IsMap D ∧
    ∀ s : List UInt8, Maps.has D (.string s) = (f s).isSome ∧ D.atKey (.string s) (.lit (.int .i32 0)) = .lit (.int .i32 ((f s).getD 0))
theorem SMapN.made (w : World) : SMapN (w.alloc (.map #[] 0)) w.heap.size 0 (fun _ => none) :=
  ⟨_, World.ownsMap_made w Tryz.prog _ _, isMap_empty, fun s => ⟨rfl, rfl⟩⟩
theorem SMapN.kept {w w' : World} {b n : Nat} {f : List UInt8 → Option Int} (h : SMapN w b n f) (hb : Below w.heap.size w w') : SMapN w' b n f := by
  obtain ⟨D, h1, h2, h3⟩ := h
  exact ⟨D, h1.kept (row := none) ⟨hb.os, hb.tape, hb.output, hb.size, fun k hk _ => hb.block k hk⟩ (by simp), h2, h3⟩
theorem SMapN.drew {w : World} {b n : Nat} {f : List UInt8 → Option Int} (h : SMapN w b n f) : SMapN w.drew b n f := h
theorem SMapN.lt {w : World} {b n : Nat} {f : List UInt8 → Option Int} (h : SMapN w b n f) : b < w.heap.size := by
  obtain ⟨D, h1, _⟩ := h; exact h1.lt
theorem wpList_sm_insert {ops : Array Oper} {rest : List Oper} {o : Oper} {a : Act} {Q : Exit → Act → World → Prop} {w : World} (hg : o.guard = none) (m x v : Operand) (hop : o.op = Op.insert 132 m x v)
    (w0 : World) (n : Nat) (f : List UInt8 → Option Int) (hm : a.eval m = .map (some w0.heap.size)) (h : SMapN w w0.heap.size n f ∧ Below w0.heap.size w0 w) (hn : n < maxLen) (s : ByteArray) (hs : s.size ≤ maxLen) (c : Int) (hc : (Lit.int .i32 c).wf = true)
    (hx : a.eval x = .string s) (hv : a.eval v = .int .i32 c)
    (hK : ∀ w', (SMapN w' w0.heap.size (n + 1) (fun y => if y = s.data.toList then some c else f y) ∧ Below w0.heap.size w0 w') → wpList Tryz.prog ops Q rest (a.put o.dst undef) w') : wpList Tryz.prog ops Q (o :: rest) a w := by
  obtain ⟨⟨D, h1, h2, h3⟩, hB⟩ := h
  obtain ⟨w', hrun, r1, r2⟩ := h1.update keyedS Tryz.underlying132 hn (keyOf_string_mk Tryz.underlying9 hs) (plainElem_int Tryz.underlying21 hc)
  refine wpList_plain hg fun K' hK' => ?_
  unfold Oper.wp
  simp [execOp, hop, hm, hx, hv, hrun, Result.andThen]
  refine hK' _ _ (hK w' ⟨⟨_, r1, h2.put _ _, fun y => ?_⟩, hB.grown r2 (Nat.le_of_lt h1.lt) (fun k hk => by cases hk; exact Nat.le_refl _)⟩)
  by_cases e : y = s.data.toList
  · subst e
    exact ⟨(has_put_same h2 (show WideAt.IsKeyLit (.string s.data.toList) from trivial) _).trans (by simp), (atKey_put_same h2 (show WideAt.IsKeyLit (.string s.data.toList) from trivial) _ _).trans (by simp)⟩
  · have hne : (Lit.string y) ≠ (Lit.string s.data.toList) := fun h => e (by injection h)
    obtain ⟨g1, g2⟩ := h3 y
    exact ⟨(has_put_other hne _).trans (by simp [g1, e]), (atKey_put_other hne _ _).trans (by simp [g2, e])⟩
theorem wpList_sm_look {ops : Array Oper} {rest : List Oper} {o : Oper} {a : Act} {Q : Exit → Act → World → Prop} {w : World} (hg : o.guard = none) (m x : Operand) (hop : o.op = Op.lookup 132 m x true)
    (b n : Nat) (f : List UInt8 → Option Int) (hm : a.eval m = .map (some b)) (h : SMapN w b n f) (s : ByteArray) (hs : s.size ≤ maxLen) (hx : a.eval x = .string s)
    (hK : wpList Tryz.prog ops Q rest (a.put o.dst (.tuple #[.int .i32 ((f s.data.toList).getD 0), .bool (f s.data.toList).isSome])) w) : wpList Tryz.prog ops Q (o :: rest) a w := by
  obtain ⟨D, h1, h2, h3⟩ := h
  refine wpList_lookup_own_ok_int w hg m x 132 hop 9 21 .i32 keyedS Tryz.underlying132 Tryz.underlying21 (zeroR w) b n D hm h1 _ (.string s.data.toList) hx (keyOf_string_mk Tryz.underlying9 hs) (fun c hc _ => ?_)
  obtain ⟨g1, g2⟩ := h3 s.data.toList
  rw [g2] at hc
  injection hc with hc
  injection hc with _ hc
  rw [g1, ← hc]
  exact hK
end Go.Proofs.YtiejmkjpgjbodaaGreatDoor

namespace Go.Proofs.YtiejmkjpgjbodaaGreatDoor
open Go.RowKit
set_option linter.unusedVariables false
set_option linter.unusedSimpArgs false
set_option maxRecDepth 100000
def putN (f : List UInt8 → Option Int) (k : List UInt8) (c : Int) : List UInt8 → Option Int := fun y => if y = k then some c else f y
def nameN : List UInt8 → Option Int :=
  putN (putN (putN (putN (putN (putN (putN (putN (putN (putN (putN (putN (putN (putN (putN (putN (fun _ => none) [97, 109, 112] 38) [108, 116] 60) [103, 116] 62) [113, 117, 111, 116] 34) [97, 112, 111, 115] 39) [110, 98, 115, 112] 160) [99, 111, 112, 121] 169) [114, 101, 103] 174) [101, 117, 114, 111] 8364) [104, 101, 108, 108, 105, 112] 8230) [110, 100, 97, 115, 104] 8211) [109, 100, 97, 115, 104] 8212) [108, 115, 113, 117, 111] 8216) [114, 115, 113, 117, 111] 8217) [108, 100, 113, 117, 111] 8220) [114, 100, 113, 117, 111] 8221
set_option maxHeartbeats 2000000 in
theorem signs_any (w : World) : Calls Tryz.prog 117 #[] w fun e w' => e = .returned (.map (some w.heap.size)) ∧ SMapN w' w.heap.size 16 nameN ∧ Below w.heap.size w w' := by
  have hst : SMapN (w.alloc (.map #[] 0)) w.heap.size 0 (fun _ => none) ∧ Below w.heap.size w (w.alloc (.map #[] 0)) := ⟨SMapN.made w, (Below.refl _ w).alloc (Nat.le_refl _) _⟩
  have hmm := @run_makeMap Tryz.prog
  go_enter Tryz.func117, Tryz.ntmps117
  go_wp2_with (refine wpList_sm_insert rfl _ _ _ rfl w _ _ rfl hst (by decide) _ (by decide) _ (by decide) rfl rfl ?_; clear hst; intro w1 hst)
  go_ret
  exact ⟨rfl, hst.1, hst.2⟩
end Go.Proofs.YtiejmkjpgjbodaaGreatDoor

namespace Go.Proofs.YtiejmkjpgjbodaaGreatDoor
set_option linter.unusedVariables false
set_option linter.unusedSimpArgs false
theorem vStep_pos' (l : List UInt8) (h : l ≠ []) : 1 ≤ (vStep l).2 ∧ (vStep l).2 ≤ l.length ∧ 1 ≤ (vStep l).1.length ∧ (vStep l).1.length ≤ 3 * (vStep l).2 := by
  have hw := wholeN_le l
  have hl := List.length_pos_iff.2 h
  by_cases hz : wholeN l = 0
  · rw [vStep_zero hz]; simp [bad]; omega
  · rw [vStep_pos rfl hz]; simp; omega
def validL (l : List UInt8) : List UInt8 := if h : l = [] then [] else (vStep l).1 ++ validL (l.drop (vStep l).2)
termination_by l.length
decreasing_by
  have h1 := vStep_pos' l h
  have h2 := List.length_pos_iff.2 h
  rw [List.length_drop]; omega
theorem validL_nil : validL [] = [] := by rw [validL]; simp
theorem validL_cons {l : List UInt8} (h : l ≠ []) : validL l = (vStep l).1 ++ validL (l.drop (vStep l).2) := by rw [validL, dif_neg h]
theorem valid_round {L acc T : List UInt8} (h : acc ++ validL L = T) (hi : L ≠ []) : (acc ++ (vStep L).1) ++ validL (L.drop (vStep L).2) = T := by
  rw [← h, validL_cons hi, List.append_assoc]
def winTab : List Int := [8364, 129, 8218, 402, 8222, 8230, 8224, 8225, 710, 8240, 352, 8249, 338, 141, 381, 143, 144, 8216, 8217, 8220, 8221, 8226, 8211, 8212, 732, 8482, 353, 8250, 339, 157, 382, 376]
def winR (c : UInt8) : Int := if 128 ≤ c.toNat ∧ c.toNat < 160 then winTab.getD (c.toNat - 128) 0 else c.toNat
def winL (l : List UInt8) : List UInt8 := l.flatMap fun c => runeL (winR c)
theorem winL_cons (c : UInt8) (l : List UInt8) : winL (c :: l) = runeL (winR c) ++ winL l := rfl
theorem winR_length (c : UInt8) : (runeL (winR c)).length ≤ 3 :=
  u8_all (p := fun c => (runeL (winR c)).length ≤ 3) (by decide +kernel) c
theorem winR_case (c : UInt8) : (c.toNat < 128 ∧ winR c = c.toNat) ∨ (128 ≤ c.toNat ∧ c.toNat < 160 ∧ winR c = winTab.getD (c.toNat - 128) 0) ∨ (160 ≤ c.toNat ∧ winR c = c.toNat) := by
  unfold winR
  by_cases h : 128 ≤ c.toNat ∧ c.toNat < 160
  · rw [if_pos h]; exact .inr (.inl ⟨h.1, h.2, rfl⟩)
  · rw [if_neg h]
    by_cases h' : c.toNat < 128
    · exact .inl ⟨h', rfl⟩
    · exact .inr (.inr ⟨by omega, rfl⟩)
theorem winR_range (c : UInt8) : 0 ≤ winR c ∧ winR c ≤ 65535 :=
  u8_all (p := fun c => 0 ≤ winR c ∧ winR c ≤ 65535) (by decide +kernel) c
def num (big : Bool) (a b : UInt8) : Nat := if big then 256 * a.toNat + b.toNat else 256 * b.toNat + a.toNat
theorem num_lt (big : Bool) (a b : UInt8) : num big a b < 65536 := by
  have := byte_lt a; have := byte_lt b
  unfold num; split <;> omega
def unitsL (big : Bool) : List UInt8 → List Nat
  | a :: b :: r => num big a b :: unitsL big r
  | _ => []
def pairV (a b : Nat) : Int := 65536 + 1024 * ((a : Int) - 55296) + ((b : Int) - 56320)
def u16 : List Nat → List UInt8
  | a :: b :: r => if 55296 ≤ a ∧ a ≤ 56319 ∧ 56320 ≤ b ∧ b ≤ 57343 then runeL (pairV a b) ++ u16 r else runeL a ++ u16 (b :: r)
  | [a] => runeL a
  | [] => []
def tailL (l : List UInt8) : List UInt8 := if l.length % 2 = 1 then bad else []
def pairsL (big : Bool) (l : List UInt8) : List UInt8 := u16 (unitsL big l) ++ tailL l
def fsT (big : Bool) (x : Nat) : List UInt8 → Int × Nat
  | c :: d :: _ => if 56320 ≤ num big c d ∧ num big c d < 57344 then (pairV x (num big c d), 4) else (65533, 2)
  | _ => (65533, 2)
def fsS (big : Bool) : List UInt8 → Int × Nat
  | a :: b :: r => if num big a b < 55296 ∨ 57344 ≤ num big a b then (num big a b, 2) else if num big a b < 56320 then fsT big (num big a b) r else (65533, 2)
  | _ => (65533, 1)
theorem tailL_drop (l : List UInt8) (k : Nat) (h : 2 * k ≤ l.length) : tailL (l.drop (2 * k)) = tailL l := by
  unfold tailL; rw [List.length_drop, show (l.length - 2 * k) % 2 = l.length % 2 from by omega]
theorem pairs_step (big : Bool) (l : List UInt8) (h : 2 ≤ l.length) : pairsL big l = runeL (fsS big l).1 ++ pairsL big (l.drop (fsS big l).2) ∧ ((fsS big l).2 = 2 ∨ (fsS big l).2 = 4) ∧ (fsS big l).2 ≤ l.length ∧ 0 ≤ (fsS big l).1 ∧ (fsS big l).1 ≤ 1114111 := by
  match l, h with
  | a :: b :: r, h =>
    have hn := num_lt big a b
    have ht2 : tailL ((a :: b :: r).drop 2) = tailL (a :: b :: r) := tailL_drop _ 1 h
    by_cases h1 : num big a b < 55296 ∨ 57344 ≤ num big a b
    · have e : fsS big (a :: b :: r) = (((num big a b : Nat) : Int), 2) := by rw [fsS, if_pos h1]
      rw [e]
      refine ⟨?_, .inl rfl, h, by show (0 : Int) ≤ _; omega, by show ((num big a b : Nat) : Int) ≤ _; omega⟩
      unfold pairsL
      rw [ht2, ← List.append_assoc]
      congr 1
      show u16 (num big a b :: unitsL big r) = runeL _ ++ u16 (unitsL big r)
      cases unitsL big r with
      | nil => simp [u16]
      | cons y t => rw [u16, if_neg (by omega)]
    · by_cases h2 : num big a b < 56320
      · match r with
        | c :: d :: r =>
          have hm := num_lt big c d
          by_cases h3 : 56320 ≤ num big c d ∧ num big c d < 57344
          · have e : fsS big (a :: b :: c :: d :: r) = (pairV (num big a b) (num big c d), 4) := by rw [fsS, if_neg h1, if_pos h2, fsT, if_pos h3]
            rw [e]
            refine ⟨?_, .inr rfl, by simp, by show 0 ≤ pairV _ _; unfold pairV; omega, by show pairV _ _ ≤ _; unfold pairV; omega⟩
            have ht4 : tailL ((a :: b :: c :: d :: r).drop 4) = tailL (a :: b :: c :: d :: r) := tailL_drop _ 2 (by simp)
            unfold pairsL
            rw [ht4, ← List.append_assoc]
            congr 1
            show u16 (num big a b :: num big c d :: unitsL big r) = runeL _ ++ u16 (unitsL big r)
            rw [u16, if_pos (by omega)]
          · have e : fsS big (a :: b :: c :: d :: r) = (65533, 2) := by rw [fsS, if_neg h1, if_pos h2, fsT, if_neg h3]
            rw [e]
            refine ⟨?_, .inl rfl, h, by decide, by decide⟩
            unfold pairsL
            rw [ht2, ← List.append_assoc]
            congr 1
            show u16 (num big a b :: num big c d :: unitsL big r) = runeL _ ++ u16 (num big c d :: unitsL big r)
            rw [u16, if_neg (by omega), runeL_bad', runeL_bad (by omega)]
        | [] =>
          have e : fsS big [a, b] = (65533, 2) := by rw [fsS, if_neg h1, if_pos h2]; rfl
          rw [e]
          refine ⟨?_, .inl rfl, h, by decide, by decide⟩
          unfold pairsL
          rw [ht2, ← List.append_assoc]
          congr 1
          show u16 [num big a b] = runeL _ ++ u16 []
          rw [u16, u16, List.append_nil, runeL_bad', runeL_bad (by omega)]
        | [c] =>
          have e : fsS big [a, b, c] = (65533, 2) := by rw [fsS, if_neg h1, if_pos h2]; rfl
          rw [e]
          refine ⟨?_, .inl rfl, h, by decide, by decide⟩
          unfold pairsL
          rw [ht2, ← List.append_assoc]
          congr 1
          show u16 [num big a b] = runeL _ ++ u16 []
          rw [u16, u16, List.append_nil, runeL_bad', runeL_bad (by omega)]
      · have e : fsS big (a :: b :: r) = (65533, 2) := by rw [fsS, if_neg h1, if_neg h2]
        rw [e]
        refine ⟨?_, .inl rfl, h, by decide, by decide⟩
        unfold pairsL
        rw [ht2, ← List.append_assoc]
        congr 1
        show u16 (num big a b :: unitsL big r) = runeL _ ++ u16 (unitsL big r)
        rw [runeL_bad']
        cases unitsL big r with
        | nil => rw [u16, u16, List.append_nil, runeL_bad (by omega)]
        | cons y t => rw [u16, if_neg (by omega), runeL_bad (by omega)]
theorem pairs_short (big : Bool) (l : List UInt8) (h : l.length < 2) : pairsL big l = if l.length = 1 then bad else [] := by
  match l, h with
  | [], _ => rfl
  | [a], _ => rfl
def cleanL (l : List UInt8) : List UInt8 := lowL (Lib.trimS l whiteSet)
def labels : List (List UInt8) :=
  [[117, 116, 102, 45, 56], [117, 116, 102, 56], [117, 110, 105, 99, 111, 100, 101, 45, 49, 45, 49, 45, 117, 116, 102, 45, 56],
   [119, 105, 110, 100, 111, 119, 115, 45, 49, 50, 53, 50], [99, 112, 49, 50, 53, 50], [117, 115, 45, 97, 115, 99, 105, 105], [97, 115, 99, 105, 105], [105, 115, 111, 45, 56, 56, 53, 57, 45, 49], [105, 115, 111, 56, 56, 53, 57, 45, 49], [108, 97, 116, 105, 110, 49], [108, 49],
   [117, 116, 102, 45, 49, 54, 108, 101], [117, 116, 102, 45, 49, 54], [117, 110, 105, 99, 111, 100, 101], [117, 99, 115, 45, 50],
   [117, 116, 102, 45, 49, 54, 98, 101], [117, 110, 105, 99, 111, 100, 101, 102, 102, 102, 101]]
def kindOf (x : List UInt8) : Nat := if labels.idxOf x < 3 then 1 else if labels.idxOf x < 11 then 2 else if labels.idxOf x < 15 then 3 else if labels.idxOf x < 17 then 4 else 0
def kindL (l : List UInt8) : Nat := kindOf (cleanL l)
def nameL : Nat → List UInt8
  | 1 => [117, 116, 102, 45, 56]
  | 2 => [119, 105, 110, 100, 111, 119, 115, 45, 49, 50, 53, 50]
  | 3 => [117, 116, 102, 45, 49, 54, 108, 101]
  | 4 => [117, 116, 102, 45, 49, 54, 98, 101]
  | _ => []
theorem kind_lt (l : List UInt8) : kindL l < 5 := by
  unfold kindL kindOf; repeat' split
  all_goals omega
def knownV (k : Nat) : Value := .tuple #[.string (str (nameL k)), .bool (decide (0 < k))]
def decodeL (k : Nat) (l : List UInt8) : List UInt8 := if k = 2 then winL l else if k = 3 then pairsL false l else if k = 4 then pairsL true l else validL l
end Go.Proofs.YtiejmkjpgjbodaaGreatDoor

namespace Go.Proofs.YtiejmkjpgjbodaaGreatDoor
open Go.RowKit
set_option linter.unusedVariables false
set_option linter.unusedSimpArgs false
theorem dropWhile_le (p : UInt8 → Bool) (l : List UInt8) : (l.dropWhile p).length ≤ l.length := (List.dropWhile_sublist (l := l) p).length_le
theorem trimS_length (l cs : List UInt8) : (Lib.trimS l cs).length ≤ l.length := by
  unfold Lib.trimS Lib.trimLeftS Lib.trimRightS
  have h1 := dropWhile_le (fun x => cs.contains x) ((l.reverse.dropWhile fun x => cs.contains x).reverse)
  have h2 := dropWhile_le (fun x => cs.contains x) l.reverse
  rw [List.length_reverse] at h1 h2
  omega
theorem kind_none {x : List UInt8} (h : ∀ y ∈ labels, x ≠ y) : kindOf x = 0 := by
  have e : labels.idxOf x = 17 := by
    have : x ∉ labels := fun hm => h x hm rfl
    rw [List.idxOf_eq_length this]; rfl
  unfold kindOf; rw [e]; rfl
theorem listT {X : ByteArray} {x y : List UInt8} (hX : X = str x) (h : x = y) : (X.toList == y) = true := by
  rw [hX, str_list, h]; simp
theorem listF {X : ByteArray} {x y : List UInt8} (hX : X = str x) (h : x ≠ y) : (X.toList == y) = false := by
  rw [hX, str_list]; simp [h]
end Go.Proofs.YtiejmkjpgjbodaaGreatDoor

namespace Go.Proofs.YtiejmkjpgjbodaaGreatDoor
open Go.RowKit
set_option linter.unusedVariables false
set_option linter.unusedSimpArgs false
theorem trim_any (s : ByteArray) (w : World) (hs : s.size ≤ maxLen) :
    Calls Tryz.prog 248 #[.string s, .string ⟨#[32, 9, 10, 12, 13]⟩] w fun e w' => e = .returned (.string (str (Lib.trimS s.data.toList whiteSet))) ∧ Below w.heap.size w w' :=
  Any.strings_Trim_laid Tryz.lays160 (by kernel_rfl) s ⟨#[32, 9, 10, 12, 13]⟩ w (by unfold maxLen at hs; omega) (by decide) (ascii_of_all (by decide))
end Go.Proofs.YtiejmkjpgjbodaaGreatDoor

namespace Go.Proofs.YtiejmkjpgjbodaaGreatDoor
open Go.RowKit
set_option linter.unusedVariables false
set_option linter.unusedSimpArgs false
def IterKept (w w' : World) : Prop := ∀ (b : Nat) (s : ByteArray) (p : Nat), w.heap[b]? = some (Obj.stringIter s p) → w'.heap[b]? = some (Obj.stringIter s p)
theorem buf_not_iter {B : Nat} {v : Value} {l : List UInt8} {W0 w : World} (h : Buf B v l W0 w) {b : Nat} {s : ByteArray} {p : Nat} (hb : w.heap[b]? = some (Obj.stringIter s p)) : v.ownBlock ≠ some b := by
  rcases h.1.2 with ⟨rfl, _⟩ | ⟨g, cap, cur, rfl, _, hh, _⟩
  · simp [Value.ownBlock]
  · intro he
    have e : g = b := by simpa [Value.ownBlock] using he
    subst e
    rw [hh] at hb; cases hb
theorem iter_own {B : Nat} {v : Value} {l : List UInt8} {W0 w w' : World} (h : Buf B v l W0 w) (hg : w.grownBy w' v.ownBlock) : IterKept w w' := fun b s p hb =>
  (hg.block b (Array.getElem?_eq_some_iff.1 hb).1 (fun e => buf_not_iter h hb e.symm)).trans hb
theorem appendRune_any (B : Nat) (v : Value) (l : List UInt8) (W0 w : World) (hb : Buf B v l W0 w) (r : Int) (h0 : 0 ≤ r) (h1 : r ≤ 1114111) (hl : l.length ≤ 70368744177664) :
    Calls Tryz.prog 147 #[v, .int .i32 r] w fun e w' => ∃ v', e = .returned v' ∧ Buf B v' (l ++ runeL r) W0 w' ∧ IterKept w w' := by
  refine (Tryz.utf8_AppendRune_plain B v l.length (cellsOf l) r (by omega) (by omega) w hb.1 (by omega) hb.2.2).mono ?_
  rintro e w' ⟨v', rfl, ho, o, hg⟩
  have hb' := hb.alloc o
  refine ⟨v', rfl, hb'.grown (l' := l ++ runeL r) ?_ hg, fun b s p hx => iter_own hb' hg b s p ?_⟩
  · have e : Lib.runeCells r = cellsOf (runeL r) := (Lib.byteCells_encodeRune r).symm
    have e2 : (Lib.runeCells r).length = (runeL r).length := by rw [e, cellsOf_length]
    rw [e2, e] at ho
    rw [List.length_append, cellsOf, List.map_append]
    exact ho
  · exact (Below.heap_alloc w o b (Array.getElem?_eq_some_iff.1 hx).1).trans hx
theorem Buf.iterAt {B : Nat} {v : Value} {l : List UInt8} {W0 w : World} (h : Buf B v l W0 w) {k : Nat} {s : ByteArray} {p : Nat} (hk : w.heap[k]? = some (Obj.stringIter s p)) (hB : B ≤ k) (p' : Nat) : Buf B v l W0 (w.iterAt k s p') := by
  have hne := buf_not_iter h hk
  refine ⟨⟨h.1.1, ?_⟩, Lib.below_iterAt h.2.1 hB s p', by rw [Lib.iterAt_size]; exact h.2.2⟩
  rcases h.1.2 with ⟨rfl, h0⟩ | ⟨g, cap, cur, rfl, h1, h2, h3⟩
  · exact .inl ⟨rfl, h0⟩
  · refine .inr ⟨g, cap, cur, rfl, h1, ?_, h3⟩
    rw [Lib.iterAt_other _ _ _ _ _ (fun e => hne (by simp [Value.ownBlock, e]))]
    exact h2
end Go.Proofs.YtiejmkjpgjbodaaGreatDoor

namespace Go.Proofs.YtiejmkjpgjbodaaGreatDoor
open Go.RowKit
set_option linter.unusedVariables false
set_option linter.unusedSimpArgs false
set_option maxRecDepth 100000 in
set_option maxHeartbeats 4000000 in
theorem known_any (s : ByteArray) (w : World) (hs : s.size ≤ 70368744177664) :
    Calls Tryz.prog 226 #[.string s] w fun e w' => e = .returned (knownV (kindL s.data.toList)) ∧ Below w.heap.size w w' := by
  obtain ⟨x, hx⟩ : ∃ x, x = cleanL s.data.toList := ⟨_, rfl⟩
  obtain ⟨X, hX⟩ : ∃ X, X = str x := ⟨_, rfl⟩
  have HX : Hid (str (cleanL s.data.toList) = X) := hide (by rw [hX, hx])
  have hk : kindL s.data.toList = kindOf x := by rw [hx]; rfl
  rw [hk]
  have HXX := hide hX
  have HSZ : Hid ((str (Lib.trimS s.data.toList whiteSet)).size ≤ 70368744177664) := hide (by
    rw [str_size]
    have h := trimS_length s.data.toList whiteSet
    rw [toList_length] at h; omega)
  clear hx hX hk
  by_cases h0 : x = [117, 116, 102, 45, 56]
  · have HV : Hid (knownV (kindOf x) = .tuple #[.string ⟨#[117, 116, 102, 45, 56]⟩, .bool true]) := hide (by rw [h0, show kindOf [117, 116, 102, 45, 56] = 1 from by decide +kernel]; rfl)
    have t0 : (X.toList == [117, 116, 102, 45, 56]) = true := listT HXX.out h0
    clear h0
    go_enter Tryz.func226, Tryz.ntmps226
    go_wp2_with fail
    refine (trim_any s _ (by unfold maxLen; omega)).mono ?_
    rintro e w1 ⟨rfl, hb1⟩
    go_wp2_with fail
    refine (lower_any _ _ HSZ.out).mono ?_
    rintro e w2 ⟨rfl, hb2⟩
    rw [str_toList, show lowL (Lib.trimS s.data.toList whiteSet) = cleanL s.data.toList from rfl, HX.out]
    have hbb := hb1.trans (hb2.mono hb1.size)
    go_wp2_with fail
    go_ret2
    exact ⟨by rw [HV.out]; rfl, hbb⟩
  have t0 : (X.toList == [117, 116, 102, 45, 56]) = false := listF HXX.out h0
  by_cases h1 : x = [117, 116, 102, 56]
  · have HV : Hid (knownV (kindOf x) = .tuple #[.string ⟨#[117, 116, 102, 45, 56]⟩, .bool true]) := hide (by rw [h1, show kindOf [117, 116, 102, 56] = 1 from by decide +kernel]; rfl)
    have t1 : (X.toList == [117, 116, 102, 56]) = true := listT HXX.out h1
    clear h0 h1
    go_enter Tryz.func226, Tryz.ntmps226
    go_wp2_with fail
    refine (trim_any s _ (by unfold maxLen; omega)).mono ?_
    rintro e w1 ⟨rfl, hb1⟩
    go_wp2_with fail
    refine (lower_any _ _ HSZ.out).mono ?_
    rintro e w2 ⟨rfl, hb2⟩
    rw [str_toList, show lowL (Lib.trimS s.data.toList whiteSet) = cleanL s.data.toList from rfl, HX.out]
    have hbb := hb1.trans (hb2.mono hb1.size)
    go_wp2_with fail
    go_ret2
    exact ⟨by rw [HV.out]; rfl, hbb⟩
  have t1 : (X.toList == [117, 116, 102, 56]) = false := listF HXX.out h1
  by_cases h2 : x = [117, 110, 105, 99, 111, 100, 101, 45, 49, 45, 49, 45, 117, 116, 102, 45, 56]
  · have HV : Hid (knownV (kindOf x) = .tuple #[.string ⟨#[117, 116, 102, 45, 56]⟩, .bool true]) := hide (by rw [h2, show kindOf [117, 110, 105, 99, 111, 100, 101, 45, 49, 45, 49, 45, 117, 116, 102, 45, 56] = 1 from by decide +kernel]; rfl)
    have t2 : (X.toList == [117, 110, 105, 99, 111, 100, 101, 45, 49, 45, 49, 45, 117, 116, 102, 45, 56]) = true := listT HXX.out h2
    clear h0 h1 h2
    go_enter Tryz.func226, Tryz.ntmps226
    go_wp2_with fail
    refine (trim_any s _ (by unfold maxLen; omega)).mono ?_
    rintro e w1 ⟨rfl, hb1⟩
    go_wp2_with fail
    refine (lower_any _ _ HSZ.out).mono ?_
    rintro e w2 ⟨rfl, hb2⟩
    rw [str_toList, show lowL (Lib.trimS s.data.toList whiteSet) = cleanL s.data.toList from rfl, HX.out]
    have hbb := hb1.trans (hb2.mono hb1.size)
    go_wp2_with fail
    go_ret2
    exact ⟨by rw [HV.out]; rfl, hbb⟩
  have t2 : (X.toList == [117, 110, 105, 99, 111, 100, 101, 45, 49, 45, 49, 45, 117, 116, 102, 45, 56]) = false := listF HXX.out h2
  by_cases h3 : x = [119, 105, 110, 100, 111, 119, 115, 45, 49, 50, 53, 50]
  · have HV : Hid (knownV (kindOf x) = .tuple #[.string ⟨#[119, 105, 110, 100, 111, 119, 115, 45, 49, 50, 53, 50]⟩, .bool true]) := hide (by rw [h3, show kindOf [119, 105, 110, 100, 111, 119, 115, 45, 49, 50, 53, 50] = 2 from by decide +kernel]; rfl)
    have t3 : (X.toList == [119, 105, 110, 100, 111, 119, 115, 45, 49, 50, 53, 50]) = true := listT HXX.out h3
    clear h0 h1 h2 h3
    go_enter Tryz.func226, Tryz.ntmps226
    go_wp2_with fail
    refine (trim_any s _ (by unfold maxLen; omega)).mono ?_
    rintro e w1 ⟨rfl, hb1⟩
    go_wp2_with fail
    refine (lower_any _ _ HSZ.out).mono ?_
    rintro e w2 ⟨rfl, hb2⟩
    rw [str_toList, show lowL (Lib.trimS s.data.toList whiteSet) = cleanL s.data.toList from rfl, HX.out]
    have hbb := hb1.trans (hb2.mono hb1.size)
    go_wp2_with fail
    go_ret2
    exact ⟨by rw [HV.out]; rfl, hbb⟩
  have t3 : (X.toList == [119, 105, 110, 100, 111, 119, 115, 45, 49, 50, 53, 50]) = false := listF HXX.out h3
  by_cases h4 : x = [99, 112, 49, 50, 53, 50]
  · have HV : Hid (knownV (kindOf x) = .tuple #[.string ⟨#[119, 105, 110, 100, 111, 119, 115, 45, 49, 50, 53, 50]⟩, .bool true]) := hide (by rw [h4, show kindOf [99, 112, 49, 50, 53, 50] = 2 from by decide +kernel]; rfl)
    have t4 : (X.toList == [99, 112, 49, 50, 53, 50]) = true := listT HXX.out h4
    clear h0 h1 h2 h3 h4
    go_enter Tryz.func226, Tryz.ntmps226
    go_wp2_with fail
    refine (trim_any s _ (by unfold maxLen; omega)).mono ?_
    rintro e w1 ⟨rfl, hb1⟩
    go_wp2_with fail
    refine (lower_any _ _ HSZ.out).mono ?_
    rintro e w2 ⟨rfl, hb2⟩
    rw [str_toList, show lowL (Lib.trimS s.data.toList whiteSet) = cleanL s.data.toList from rfl, HX.out]
    have hbb := hb1.trans (hb2.mono hb1.size)
    go_wp2_with fail
    go_ret2
    exact ⟨by rw [HV.out]; rfl, hbb⟩
  have t4 : (X.toList == [99, 112, 49, 50, 53, 50]) = false := listF HXX.out h4
  by_cases h5 : x = [117, 115, 45, 97, 115, 99, 105, 105]
  · have HV : Hid (knownV (kindOf x) = .tuple #[.string ⟨#[119, 105, 110, 100, 111, 119, 115, 45, 49, 50, 53, 50]⟩, .bool true]) := hide (by rw [h5, show kindOf [117, 115, 45, 97, 115, 99, 105, 105] = 2 from by decide +kernel]; rfl)
    have t5 : (X.toList == [117, 115, 45, 97, 115, 99, 105, 105]) = true := listT HXX.out h5
    clear h0 h1 h2 h3 h4 h5
    go_enter Tryz.func226, Tryz.ntmps226
    go_wp2_with fail
    refine (trim_any s _ (by unfold maxLen; omega)).mono ?_
    rintro e w1 ⟨rfl, hb1⟩
    go_wp2_with fail
    refine (lower_any _ _ HSZ.out).mono ?_
    rintro e w2 ⟨rfl, hb2⟩
    rw [str_toList, show lowL (Lib.trimS s.data.toList whiteSet) = cleanL s.data.toList from rfl, HX.out]
    have hbb := hb1.trans (hb2.mono hb1.size)
    go_wp2_with fail
    go_ret2
    exact ⟨by rw [HV.out]; rfl, hbb⟩
  have t5 : (X.toList == [117, 115, 45, 97, 115, 99, 105, 105]) = false := listF HXX.out h5
  by_cases h6 : x = [97, 115, 99, 105, 105]
  · have HV : Hid (knownV (kindOf x) = .tuple #[.string ⟨#[119, 105, 110, 100, 111, 119, 115, 45, 49, 50, 53, 50]⟩, .bool true]) := hide (by rw [h6, show kindOf [97, 115, 99, 105, 105] = 2 from by decide +kernel]; rfl)
    have t6 : (X.toList == [97, 115, 99, 105, 105]) = true := listT HXX.out h6
    clear h0 h1 h2 h3 h4 h5 h6
    go_enter Tryz.func226, Tryz.ntmps226
    go_wp2_with fail
    refine (trim_any s _ (by unfold maxLen; omega)).mono ?_
    rintro e w1 ⟨rfl, hb1⟩
    go_wp2_with fail
    refine (lower_any _ _ HSZ.out).mono ?_
    rintro e w2 ⟨rfl, hb2⟩
    rw [str_toList, show lowL (Lib.trimS s.data.toList whiteSet) = cleanL s.data.toList from rfl, HX.out]
    have hbb := hb1.trans (hb2.mono hb1.size)
    go_wp2_with fail
    go_ret2
    exact ⟨by rw [HV.out]; rfl, hbb⟩
  have t6 : (X.toList == [97, 115, 99, 105, 105]) = false := listF HXX.out h6
  by_cases h7 : x = [105, 115, 111, 45, 56, 56, 53, 57, 45, 49]
  · have HV : Hid (knownV (kindOf x) = .tuple #[.string ⟨#[119, 105, 110, 100, 111, 119, 115, 45, 49, 50, 53, 50]⟩, .bool true]) := hide (by rw [h7, show kindOf [105, 115, 111, 45, 56, 56, 53, 57, 45, 49] = 2 from by decide +kernel]; rfl)
    have t7 : (X.toList == [105, 115, 111, 45, 56, 56, 53, 57, 45, 49]) = true := listT HXX.out h7
    clear h0 h1 h2 h3 h4 h5 h6 h7
    go_enter Tryz.func226, Tryz.ntmps226
    go_wp2_with fail
    refine (trim_any s _ (by unfold maxLen; omega)).mono ?_
    rintro e w1 ⟨rfl, hb1⟩
    go_wp2_with fail
    refine (lower_any _ _ HSZ.out).mono ?_
    rintro e w2 ⟨rfl, hb2⟩
    rw [str_toList, show lowL (Lib.trimS s.data.toList whiteSet) = cleanL s.data.toList from rfl, HX.out]
    have hbb := hb1.trans (hb2.mono hb1.size)
    go_wp2_with fail
    go_ret2
    exact ⟨by rw [HV.out]; rfl, hbb⟩
  have t7 : (X.toList == [105, 115, 111, 45, 56, 56, 53, 57, 45, 49]) = false := listF HXX.out h7
  by_cases h8 : x = [105, 115, 111, 56, 56, 53, 57, 45, 49]
  · have HV : Hid (knownV (kindOf x) = .tuple #[.string ⟨#[119, 105, 110, 100, 111, 119, 115, 45, 49, 50, 53, 50]⟩, .bool true]) := hide (by rw [h8, show kindOf [105, 115, 111, 56, 56, 53, 57, 45, 49] = 2 from by decide +kernel]; rfl)
    have t8 : (X.toList == [105, 115, 111, 56, 56, 53, 57, 45, 49]) = true := listT HXX.out h8
    clear h0 h1 h2 h3 h4 h5 h6 h7 h8
    go_enter Tryz.func226, Tryz.ntmps226
    go_wp2_with fail
    refine (trim_any s _ (by unfold maxLen; omega)).mono ?_
    rintro e w1 ⟨rfl, hb1⟩
    go_wp2_with fail
    refine (lower_any _ _ HSZ.out).mono ?_
    rintro e w2 ⟨rfl, hb2⟩
    rw [str_toList, show lowL (Lib.trimS s.data.toList whiteSet) = cleanL s.data.toList from rfl, HX.out]
    have hbb := hb1.trans (hb2.mono hb1.size)
    go_wp2_with fail
    go_ret2
    exact ⟨by rw [HV.out]; rfl, hbb⟩
  have t8 : (X.toList == [105, 115, 111, 56, 56, 53, 57, 45, 49]) = false := listF HXX.out h8
  by_cases h9 : x = [108, 97, 116, 105, 110, 49]
  · have HV : Hid (knownV (kindOf x) = .tuple #[.string ⟨#[119, 105, 110, 100, 111, 119, 115, 45, 49, 50, 53, 50]⟩, .bool true]) := hide (by rw [h9, show kindOf [108, 97, 116, 105, 110, 49] = 2 from by decide +kernel]; rfl)
    have t9 : (X.toList == [108, 97, 116, 105, 110, 49]) = true := listT HXX.out h9
    clear h0 h1 h2 h3 h4 h5 h6 h7 h8 h9
    go_enter Tryz.func226, Tryz.ntmps226
    go_wp2_with fail
    refine (trim_any s _ (by unfold maxLen; omega)).mono ?_
    rintro e w1 ⟨rfl, hb1⟩
    go_wp2_with fail
    refine (lower_any _ _ HSZ.out).mono ?_
    rintro e w2 ⟨rfl, hb2⟩
    rw [str_toList, show lowL (Lib.trimS s.data.toList whiteSet) = cleanL s.data.toList from rfl, HX.out]
    have hbb := hb1.trans (hb2.mono hb1.size)
    go_wp2_with fail
    go_ret2
    exact ⟨by rw [HV.out]; rfl, hbb⟩
  have t9 : (X.toList == [108, 97, 116, 105, 110, 49]) = false := listF HXX.out h9
  by_cases h10 : x = [108, 49]
  · have HV : Hid (knownV (kindOf x) = .tuple #[.string ⟨#[119, 105, 110, 100, 111, 119, 115, 45, 49, 50, 53, 50]⟩, .bool true]) := hide (by rw [h10, show kindOf [108, 49] = 2 from by decide +kernel]; rfl)
    have t10 : (X.toList == [108, 49]) = true := listT HXX.out h10
    clear h0 h1 h2 h3 h4 h5 h6 h7 h8 h9 h10
    go_enter Tryz.func226, Tryz.ntmps226
    go_wp2_with fail
    refine (trim_any s _ (by unfold maxLen; omega)).mono ?_
    rintro e w1 ⟨rfl, hb1⟩
    go_wp2_with fail
    refine (lower_any _ _ HSZ.out).mono ?_
    rintro e w2 ⟨rfl, hb2⟩
    rw [str_toList, show lowL (Lib.trimS s.data.toList whiteSet) = cleanL s.data.toList from rfl, HX.out]
    have hbb := hb1.trans (hb2.mono hb1.size)
    go_wp2_with fail
    go_ret2
    exact ⟨by rw [HV.out]; rfl, hbb⟩
  have t10 : (X.toList == [108, 49]) = false := listF HXX.out h10
  by_cases h11 : x = [117, 116, 102, 45, 49, 54, 108, 101]
  · have HV : Hid (knownV (kindOf x) = .tuple #[.string ⟨#[117, 116, 102, 45, 49, 54, 108, 101]⟩, .bool true]) := hide (by rw [h11, show kindOf [117, 116, 102, 45, 49, 54, 108, 101] = 3 from by decide +kernel]; rfl)
    have t11 : (X.toList == [117, 116, 102, 45, 49, 54, 108, 101]) = true := listT HXX.out h11
    clear h0 h1 h2 h3 h4 h5 h6 h7 h8 h9 h10 h11
    go_enter Tryz.func226, Tryz.ntmps226
    go_wp2_with fail
    refine (trim_any s _ (by unfold maxLen; omega)).mono ?_
    rintro e w1 ⟨rfl, hb1⟩
    go_wp2_with fail
    refine (lower_any _ _ HSZ.out).mono ?_
    rintro e w2 ⟨rfl, hb2⟩
    rw [str_toList, show lowL (Lib.trimS s.data.toList whiteSet) = cleanL s.data.toList from rfl, HX.out]
    have hbb := hb1.trans (hb2.mono hb1.size)
    go_wp2_with fail
    go_ret2
    exact ⟨by rw [HV.out]; rfl, hbb⟩
  have t11 : (X.toList == [117, 116, 102, 45, 49, 54, 108, 101]) = false := listF HXX.out h11
  by_cases h12 : x = [117, 116, 102, 45, 49, 54]
  · have HV : Hid (knownV (kindOf x) = .tuple #[.string ⟨#[117, 116, 102, 45, 49, 54, 108, 101]⟩, .bool true]) := hide (by rw [h12, show kindOf [117, 116, 102, 45, 49, 54] = 3 from by decide +kernel]; rfl)
    have t12 : (X.toList == [117, 116, 102, 45, 49, 54]) = true := listT HXX.out h12
    clear h0 h1 h2 h3 h4 h5 h6 h7 h8 h9 h10 h11 h12
    go_enter Tryz.func226, Tryz.ntmps226
    go_wp2_with fail
    refine (trim_any s _ (by unfold maxLen; omega)).mono ?_
    rintro e w1 ⟨rfl, hb1⟩
    go_wp2_with fail
    refine (lower_any _ _ HSZ.out).mono ?_
    rintro e w2 ⟨rfl, hb2⟩
    rw [str_toList, show lowL (Lib.trimS s.data.toList whiteSet) = cleanL s.data.toList from rfl, HX.out]
    have hbb := hb1.trans (hb2.mono hb1.size)
    go_wp2_with fail
    go_ret2
    exact ⟨by rw [HV.out]; rfl, hbb⟩
  have t12 : (X.toList == [117, 116, 102, 45, 49, 54]) = false := listF HXX.out h12
  by_cases h13 : x = [117, 110, 105, 99, 111, 100, 101]
  · have HV : Hid (knownV (kindOf x) = .tuple #[.string ⟨#[117, 116, 102, 45, 49, 54, 108, 101]⟩, .bool true]) := hide (by rw [h13, show kindOf [117, 110, 105, 99, 111, 100, 101] = 3 from by decide +kernel]; rfl)
    have t13 : (X.toList == [117, 110, 105, 99, 111, 100, 101]) = true := listT HXX.out h13
    clear h0 h1 h2 h3 h4 h5 h6 h7 h8 h9 h10 h11 h12 h13
    go_enter Tryz.func226, Tryz.ntmps226
    go_wp2_with fail
    refine (trim_any s _ (by unfold maxLen; omega)).mono ?_
    rintro e w1 ⟨rfl, hb1⟩
    go_wp2_with fail
    refine (lower_any _ _ HSZ.out).mono ?_
    rintro e w2 ⟨rfl, hb2⟩
    rw [str_toList, show lowL (Lib.trimS s.data.toList whiteSet) = cleanL s.data.toList from rfl, HX.out]
    have hbb := hb1.trans (hb2.mono hb1.size)
    go_wp2_with fail
    go_ret2
    exact ⟨by rw [HV.out]; rfl, hbb⟩
  have t13 : (X.toList == [117, 110, 105, 99, 111, 100, 101]) = false := listF HXX.out h13
  by_cases h14 : x = [117, 99, 115, 45, 50]
  · have HV : Hid (knownV (kindOf x) = .tuple #[.string ⟨#[117, 116, 102, 45, 49, 54, 108, 101]⟩, .bool true]) := hide (by rw [h14, show kindOf [117, 99, 115, 45, 50] = 3 from by decide +kernel]; rfl)
    have t14 : (X.toList == [117, 99, 115, 45, 50]) = true := listT HXX.out h14
    clear h0 h1 h2 h3 h4 h5 h6 h7 h8 h9 h10 h11 h12 h13 h14
    go_enter Tryz.func226, Tryz.ntmps226
    go_wp2_with fail
    refine (trim_any s _ (by unfold maxLen; omega)).mono ?_
    rintro e w1 ⟨rfl, hb1⟩
    go_wp2_with fail
    refine (lower_any _ _ HSZ.out).mono ?_
    rintro e w2 ⟨rfl, hb2⟩
    rw [str_toList, show lowL (Lib.trimS s.data.toList whiteSet) = cleanL s.data.toList from rfl, HX.out]
    have hbb := hb1.trans (hb2.mono hb1.size)
    go_wp2_with fail
    go_ret2
    exact ⟨by rw [HV.out]; rfl, hbb⟩
  have t14 : (X.toList == [117, 99, 115, 45, 50]) = false := listF HXX.out h14
  by_cases h15 : x = [117, 116, 102, 45, 49, 54, 98, 101]
  · have HV : Hid (knownV (kindOf x) = .tuple #[.string ⟨#[117, 116, 102, 45, 49, 54, 98, 101]⟩, .bool true]) := hide (by rw [h15, show kindOf [117, 116, 102, 45, 49, 54, 98, 101] = 4 from by decide +kernel]; rfl)
    have t15 : (X.toList == [117, 116, 102, 45, 49, 54, 98, 101]) = true := listT HXX.out h15
    clear h0 h1 h2 h3 h4 h5 h6 h7 h8 h9 h10 h11 h12 h13 h14 h15
    go_enter Tryz.func226, Tryz.ntmps226
    go_wp2_with fail
    refine (trim_any s _ (by unfold maxLen; omega)).mono ?_
    rintro e w1 ⟨rfl, hb1⟩
    go_wp2_with fail
    refine (lower_any _ _ HSZ.out).mono ?_
    rintro e w2 ⟨rfl, hb2⟩
    rw [str_toList, show lowL (Lib.trimS s.data.toList whiteSet) = cleanL s.data.toList from rfl, HX.out]
    have hbb := hb1.trans (hb2.mono hb1.size)
    go_wp2_with fail
    go_ret2
    exact ⟨by rw [HV.out]; rfl, hbb⟩
  have t15 : (X.toList == [117, 116, 102, 45, 49, 54, 98, 101]) = false := listF HXX.out h15
  by_cases h16 : x = [117, 110, 105, 99, 111, 100, 101, 102, 102, 102, 101]
  · have HV : Hid (knownV (kindOf x) = .tuple #[.string ⟨#[117, 116, 102, 45, 49, 54, 98, 101]⟩, .bool true]) := hide (by rw [h16, show kindOf [117, 110, 105, 99, 111, 100, 101, 102, 102, 102, 101] = 4 from by decide +kernel]; rfl)
    have t16 : (X.toList == [117, 110, 105, 99, 111, 100, 101, 102, 102, 102, 101]) = true := listT HXX.out h16
    clear h0 h1 h2 h3 h4 h5 h6 h7 h8 h9 h10 h11 h12 h13 h14 h15 h16
    go_enter Tryz.func226, Tryz.ntmps226
    go_wp2_with fail
    refine (trim_any s _ (by unfold maxLen; omega)).mono ?_
    rintro e w1 ⟨rfl, hb1⟩
    go_wp2_with fail
    refine (lower_any _ _ HSZ.out).mono ?_
    rintro e w2 ⟨rfl, hb2⟩
    rw [str_toList, show lowL (Lib.trimS s.data.toList whiteSet) = cleanL s.data.toList from rfl, HX.out]
    have hbb := hb1.trans (hb2.mono hb1.size)
    go_wp2_with fail
    go_ret2
    exact ⟨by rw [HV.out]; rfl, hbb⟩
  have t16 : (X.toList == [117, 110, 105, 99, 111, 100, 101, 102, 102, 102, 101]) = false := listF HXX.out h16
  have HV : Hid (knownV (kindOf x) = .tuple #[.string ⟨#[]⟩, .bool false]) := hide (by
    rw [kind_none (x := x) (by
      intro y hy
      simp only [labels, List.mem_cons, List.mem_nil_iff, or_false] at hy
      rcases hy with rfl | rfl | rfl | rfl | rfl | rfl | rfl | rfl | rfl | rfl | rfl | rfl | rfl | rfl | rfl | rfl | rfl
      all_goals assumption)]
    rfl)
  clear h0 h1 h2 h3 h4 h5 h6 h7 h8 h9 h10 h11 h12 h13 h14 h15 h16
  go_enter Tryz.func226, Tryz.ntmps226
  go_wp2_with fail
  refine (trim_any s _ (by unfold maxLen; omega)).mono ?_
  rintro e w1 ⟨rfl, hb1⟩
  go_wp2_with fail
  refine (lower_any _ _ HSZ.out).mono ?_
  rintro e w2 ⟨rfl, hb2⟩
  rw [str_toList, show lowL (Lib.trimS s.data.toList whiteSet) = cleanL s.data.toList from rfl, HX.out]
  have hbb := hb1.trans (hb2.mono hb1.size)
  go_wp2_with fail
  go_ret2
  exact ⟨by rw [HV.out]; rfl, hbb⟩
end Go.Proofs.YtiejmkjpgjbodaaGreatDoor

namespace Go.Proofs.YtiejmkjpgjbodaaGreatDoor
open Go.RowKit
set_option linter.unusedVariables false
set_option linter.unusedSimpArgs false
set_option maxHeartbeats 1000000 in
theorem valid_any (s : ByteArray) (w : World) (hs : s.size ≤ 1048576) :
    Calls Tryz.prog 229 #[.string s] w fun e w' => e = .returned (.string (str (validL s.data.toList))) ∧ Below w.heap.size w w' := by
  go_enter Tryz.func229, Tryz.ntmps229
  go_wp2_with (refine wpList_buf_make rfl _ _ rfl w.heap.size w (Below.refl _ _) (Nat.le_refl _) s.size s.size rfl rfl rfl (by omega) ?_; intro v0 w0 hb0)
  have hbz := hb0.2.2
  have hit : (w0.iter s 0).heap[w0.heap.size]? = some (Obj.stringIter s 0) := heap_alloc_new w0 _
  go_loopw [3] (fun v wr => ∃ (pos : Nat) (acc : List UInt8), pos ≤ s.size ∧ wr.heap[w0.heap.size]? = some (Obj.stringIter s pos) ∧ Buf w.heap.size v acc w wr ∧ acc.length ≤ 3 * pos ∧ acc ++ validL (s.data.toList.drop pos) = validL s.data.toList) (fun _ wr => s.size - wr.iterPos w0.heap.size)
  case atStart => exact ⟨0, [], Nat.zero_le _, hit, hb0.alloc _, Nat.le_refl _, by simp⟩
  case round =>
    obtain ⟨pos, acc, hpos, hk, hb, hacc, hd⟩ := hrel
    have HB := hide hb
    have HK := hide hk
    clear hb hk
    by_cases hlt : pos < s.size
    · have hnx := fun ty => Lib.run_next_any_at (P := Tryz.prog) wr w0.heap.size s pos ty HK.out hlt
      have hne : s.data.toList.drop pos ≠ [] := by rw [drop_cons s pos hlt]; simp
      have hsp := decL_spec _ hne
      have hst := vStep_pos' _ hne
      have hR := valid_round hd hne
      rw [List.drop_drop] at hR
      rw [decode_decL s pos hlt] at hnx
      rw [List.length_drop, toList_length] at hst
      generalize decL (s.data.toList.drop pos) = dl at hnx hsp
      obtain ⟨r, n⟩ := dl
      simp only at hsp hnx
      rw [← hsp.1, ← hsp.2.1] at hR
      rw [← hsp.1, ← hsp.2.1] at hst
      have hr := hsp.2.2
      clear hsp
      obtain ⟨hn1, hn2, hn3, hn4⟩ := hst
      have HR := hide hR
      have HI := hide (Lib.iterAt_heap wr w0.heap.size s pos (pos + n) HK.out)
      have HB1 := hide (HB.out.iterAt HK.out (by omega) (pos + n))
      clear hR hd hne
      go_wp2_with fail
      refine (appendRune_any w.heap.size u3 acc w _ HB1.out (r : Int) (by omega) (by omega) (by omega)).mono ?_
      rintro e w1 ⟨v1, rfl, hb1, hi1⟩
      have HB2 := hide hb1
      have HI2 := hide (hi1 _ _ _ HI.out)
      clear hb1 hi1
      go_wp2_with fail
      go_roundw
      case rel => exact ⟨pos + n, acc ++ _, by omega, HI2.out, HB2.out, by rw [List.length_append]; omega, HR.out⟩
      case measure =>
        have e1 : World.iterPos w1 w0.heap.size = pos + n := by unfold World.iterPos; rw [HI2.out]
        have e2 : World.iterPos wr w0.heap.size = pos := by unfold World.iterPos; rw [HK.out]
        rw [e1, e2]; omega
    · have hnx := fun ty => Lib.run_next_end_at (P := Tryz.prog) wr w0.heap.size s pos ty HK.out hlt
      have hcv := HB.out.convert
      go_wp2
      go_ret
      refine ⟨?_, HB.out.below⟩
      rw [drop_nil s pos (by omega), validL_nil, List.append_nil] at hd
      exact ret_str (by rw [hd])
def Tab (w : World) : Prop := ∀ j : Nat, j < 32 → w.cell? ⟨3, j, none⟩ = some (.int .i32 (winTab.getD j 0))
theorem Tab.lt {w : World} (h : Tab w) : 3 < w.heap.size := by
  have := h 0 (by omega)
  rcases Nat.lt_or_ge 3 w.heap.size with h1 | h1
  · exact h1
  · unfold World.cell? at this
    rw [Array.getElem?_eq_none h1] at this; cases this
theorem Tab.below {B : Nat} {w w' : World} (h : Tab w) (hb : Below B w w') (hB : 3 < B) : Tab w' := fun j hj => by
  rw [← h j hj]
  exact hb.cell (by exact hB)
set_option maxHeartbeats 1000000 in
theorem fromWindows_any (s : ByteArray) (w : World) (hs : s.size ≤ 1048576) (hT : Tab w) :
    Calls Tryz.prog 227 #[.string s] w fun e w' => e = .returned (.string (str (winL s.data.toList))) ∧ Below w.heap.size w w' := by
  have HT := hide hT
  have h0 := hT.lt
  clear hT
  go_enter Tryz.func227, Tryz.ntmps227
  go_wp2_with (refine wpList_buf_make rfl _ _ rfl w.heap.size w (Below.refl _ _) (Nat.le_refl _) s.size s.size rfl rfl rfl (by omega) ?_; intro v0 w0 hb0)
  go_loopw [3, 12] (fun v i wr => ∃ (k : Nat) (acc : List UInt8), k ≤ s.size ∧ i = .int .i64 k ∧ Buf w.heap.size v acc w wr ∧ acc.length ≤ 3 * k ∧ acc ++ winL (s.data.toList.drop k) = winL s.data.toList) (fun _ i _ => s.size - (intOf i).toNat)
  case atStart => exact ⟨0, [], Nat.zero_le _, rfl, hb0, Nat.le_refl _, by simp⟩
  case round =>
    obtain ⟨k, acc, hk, rfl, hb, hacc, hd⟩ := hrel
    have HB := hide hb
    clear hb
    by_cases hlt : k < s.size
    · rw [drop_cons s k hlt, winL_cons, ← List.append_assoc] at hd
      have HR := hide hd
      have hcase := winR_case s[k]
      have hl3 := winR_length s[k]
      have hrg := winR_range s[k]
      have hbl := byte_lt s[k]
      generalize hc : s[k] = c at hd hcase hl3 hrg hbl
      rw [hc] at HR
      clear hd
      rcases hcase with ⟨c1, e⟩ | ⟨c1, c2, e⟩ | ⟨c1, e⟩
      · rw [e] at HR hl3
        clear e
        go_wp2_with fail
        refine (appendRune_any w.heap.size u3 acc w wr HB.out c.toNat (by omega) (by omega) (by omega)).mono ?_
        rintro e w1 ⟨v1, rfl, hb1, _⟩
        have HB1 := hide hb1
        clear hb1
        go_wp2_with fail
        go_roundw
        case rel => exact ⟨k + 1, acc ++ _, by omega, by go_num, HB1.out, by rw [List.length_append]; omega, HR.out⟩
        case measure => simp [intOf]; omega
      · have hcell := (HT.out.below HB.out.below h0) (c.toNat - 128) (by omega)
        rw [← e] at hcell
        have q1 : ((c.toNat : Int) - 128).toNat = c.toNat - 128 := by omega
        generalize winR c = rr at HR hl3 hrg hcell e
        clear e
        go_wp2_with fail
        refine (appendRune_any w.heap.size u3 acc w wr HB.out rr (by omega) (by omega) (by omega)).mono ?_
        rintro e w1 ⟨v1, rfl, hb1, _⟩
        have HB1 := hide hb1
        clear hb1
        go_wp2_with fail
        go_roundw
        case rel => exact ⟨k + 1, acc ++ _, by omega, by go_num, HB1.out, by rw [List.length_append]; omega, HR.out⟩
        case measure => simp [intOf]; omega
      · rw [e] at HR hl3
        clear e
        go_wp2_with fail
        refine (appendRune_any w.heap.size u3 acc w wr HB.out c.toNat (by omega) (by omega) (by omega)).mono ?_
        rintro e w1 ⟨v1, rfl, hb1, _⟩
        have HB1 := hide hb1
        clear hb1
        go_wp2_with fail
        go_roundw
        case rel => exact ⟨k + 1, acc ++ _, by omega, by go_num, HB1.out, by rw [List.length_append]; omega, HR.out⟩
        case measure => simp [intOf]; omega
    · have hcv := HB.out.convert
      go_wp2
      go_ret
      refine ⟨?_, HB.out.below⟩
      rw [drop_nil s k (by omega)] at hd
      rw [show winL [] = [] from rfl, List.append_nil] at hd
      exact ret_str (by rw [hd])
end Go.Proofs.YtiejmkjpgjbodaaGreatDoor

namespace Go.Proofs.YtiejmkjpgjbodaaGreatDoor
open Go.RowKit
set_option linter.unusedVariables false
set_option linter.unusedSimpArgs false
theorem or_bytes (a b : Nat) (ha : a < 256) (hb : b < 256) : bits .or .i32 ((a : Int) * 256) (b : Int) = ((256 * a + b : Nat) : Int) := by
  have h1 : (BitVec.ofInt 32 ((a : Int) * 256)).toNat = a * 256 := by
    rw [show (a : Int) * 256 = ((a * 256 : Nat) : Int) from by omega, BitVec.ofInt_natCast, BitVec.toNat_ofNat]; exact Nat.mod_eq_of_lt (by omega)
  have h2 : (BitVec.ofInt 32 (b : Int)).toNat = b := by
    rw [BitVec.ofInt_natCast, BitVec.toNat_ofNat]; exact Nat.mod_eq_of_lt (by omega)
  show IntKind.i32.wrap ((BitVec.ofInt 32 ((a : Int) * 256) ||| BitVec.ofInt 32 (b : Int)).toNat : Int) = _
  rw [BitVec.toNat_or, h1, h2]
  have e : a * 256 ||| b = 256 * a + b := by
    have := Nat.two_pow_add_eq_or_of_lt (i := 8) (b := b) (by omega) a
    rw [Nat.mul_comm a 256]
    exact this.symm
  rw [e]
  exact IntWalk.i32_in _ (by omega)
def hiAt (big : Bool) : Int := if big then 0 else 1
set_option maxHeartbeats 1000000 in
theorem number_any (s : ByteArray) (big : Bool) (w : World) (hs : s.size ≤ maxLen) (h2 : 1 < s.size) :
    Calls Tryz.prog 265 #[.string s, .int .i64 (hiAt big)] w fun e w' => e = .returned (.int .i32 (num big s[0] s[1])) ∧ Below w.heap.size w w' := by
  unfold maxLen at hs
  have ha := byte_lt s[0]
  have hb := byte_lt s[1]
  have i0 : (0 : Int) < s.size := by omega
  have i1 : (1 : Int) < s.size := by omega
  have n0 : 0 < s.size := by omega
  cases big
  · have ho := or_bytes s[1].toNat s[0].toNat hb ha
    show Calls _ _ #[.string s, .int .i64 1] _ _
    go_enter Tryz.func265, Tryz.ntmps265
    go_wp2_with fail
    go_region
    all_goals (try go_wp2)
    all_goals
      go_ret
      exact ⟨ret_int (by unfold num; simp), (Below.refl _ _).drew⟩
  · have ho := or_bytes s[0].toNat s[1].toNat ha hb
    show Calls _ _ #[.string s, .int .i64 0] _ _
    go_enter Tryz.func265, Tryz.ntmps265
    go_wp2_with fail
    go_region
    all_goals (try go_wp2)
    all_goals
      go_ret
      exact ⟨ret_int (by unfold num; simp), (Below.refl _ _).drew⟩
theorem number_list (s : ByteArray) (big : Bool) (a b : UInt8) (r : List UInt8) (w : World) (hs : s.size ≤ maxLen) (h : s.data.toList = a :: b :: r) :
    Calls Tryz.prog 265 #[.string s, .int .i64 (hiAt big)] w fun e w' => e = .returned (.int .i32 (num big a b)) ∧ Below w.heap.size w w' := by
  have hl := toList_length s
  rw [h] at hl
  simp only [List.length_cons] at hl
  have h1 : 1 < s.size := by omega
  have e := drop_cons s 0 (by omega)
  rw [List.drop_zero, drop_cons s 1 h1, h] at e
  injection e with e1 e
  injection e with e2 e
  have := number_any s big w hs h1
  rw [← e1, ← e2] at this
  exact this
def fsV (big : Bool) (l : List UInt8) : Value := .tuple #[.int .i32 (fsS big l).1, .int .i64 (fsS big l).2]
theorem fsV_of {big : Bool} {l : List UInt8} {z : Int} {n : Nat} (h : fsS big l = (z, n)) : fsV big l = .tuple #[.int .i32 z, .int .i64 n] := by unfold fsV; rw [h]
set_option maxRecDepth 100000 in
set_option maxHeartbeats 2000000 in
theorem firstSign_any (s : ByteArray) (big : Bool) (w : World) (hs : s.size ≤ maxLen) (h2 : 1 < s.size) :
    Calls Tryz.prog 249 #[.string s, .int .i64 (hiAt big)] w fun e w' => e = .returned (fsV big s.data.toList) ∧ Below w.heap.size w w' := by
  have hs' := hs
  unfold maxLen at hs
  obtain ⟨a, b, r, hl⟩ : ∃ a b r, s.data.toList = a :: b :: r := by
    have e := drop_cons s 0 (by omega)
    rw [List.drop_zero, drop_cons s 1 h2] at e
    exact ⟨_, _, _, e⟩
  have hlen := toList_length s
  rw [hl] at hlen
  simp only [List.length_cons] at hlen
  have HN := hide (fun (w : World) => number_list s big a b r w hs' hl)
  have hlt := num_lt big a b
  obtain ⟨x, hx⟩ : ∃ x, x = num big a b := ⟨_, rfl⟩
  rw [hl]
  have hi : ∃ z, z = hiAt big := ⟨_, rfl⟩
  obtain ⟨z, hz⟩ := hi
  rw [← hz]
  have HZ := hide hz
  rw [← hz, ← hx] at HN
  rw [← hx] at hlt
  have HX := hide hx
  clear hx hz
  by_cases c1 : x < 55296
  · have HV := hide (fsV_of (big := big) (l := a :: b :: r) (z := x) (n := 2) (by rw [fsS, ← HX.out, if_pos (.inl c1)]))
    clear hlen
    go_enter Tryz.func249, Tryz.ntmps249
    go_wp2_with fail
    refine (HN.out _).mono ?_
    rintro e w1 ⟨rfl, hb1⟩
    go_wp2_with fail
    go_ret2
    exact ⟨by rw [HV.out]; rfl, hb1⟩
  by_cases c2 : 57344 ≤ x
  · have HV := hide (fsV_of (big := big) (l := a :: b :: r) (z := x) (n := 2) (by rw [fsS, ← HX.out, if_pos (.inr c2)]))
    clear hlen
    go_enter Tryz.func249, Tryz.ntmps249
    go_wp2_with fail
    refine (HN.out _).mono ?_
    rintro e w1 ⟨rfl, hb1⟩
    go_wp2_with fail
    go_ret2
    exact ⟨by rw [HV.out]; rfl, hb1⟩
  have c12 : ¬ (x < 55296 ∨ 57344 ≤ x) := by omega
  have t1 : decide ((x : Int) < 55296) = false := decide_eq_false (by omega)
  have t2 : decide ((57344 : Int) ≤ x) = false := decide_eq_false (by omega)
  have C12 := hide c12
  have K1 : Hid (55296 ≤ x) := hide (by omega)
  clear c12 c1 c2
  by_cases c3 : x < 56320
  · have t3 : decide ((x : Int) < 56320) = true := decide_eq_true (by omega)
    have C3 := hide c3
    clear c3
    by_cases c4 : 3 < s.size
    · have t4 : decide ((3 : Int) < s.size) = true := decide_eq_true (by omega)
      have s2 : (2 : Int) ≤ s.size := by omega
      obtain ⟨c, d, r', hr⟩ : ∃ c d r', r = c :: d :: r' := by
        match r, hlen with
        | c :: d :: r', _ => exact ⟨c, d, r', rfl⟩
        | [c], h => simp at h; omega
        | [], h => simp at h; omega
      subst hr
      have hx2 : (s.extract 2 s.size).data.toList = c :: d :: r' := by rw [extract_end, hl]; rfl
      have HN2 := hide (fun (w : World) => number_list (s.extract 2 s.size) big c d r' w (by have := extract_size_le s 2 s.size; unfold maxLen; omega) hx2)
      have hlt2 := num_lt big c d
      obtain ⟨y, hy⟩ : ∃ y, y = num big c d := ⟨_, rfl⟩
      rw [← HZ.out, ← hy] at HN2
      rw [← hy] at hlt2
      have HY := hide hy
      clear hy hx2 hl c4
      by_cases c5 : 56320 ≤ y ∧ y < 57344
      · have HV := hide (fsV_of (big := big) (l := a :: b :: c :: d :: r') (z := pairV x y) (n := 4) (by rw [fsS, ← HX.out, if_neg C12.out, if_pos C3.out, fsT, ← HY.out, if_pos c5]))
        have t5 : decide ((56320 : Int) ≤ y) = true := decide_eq_true (by omega)
        have t6 : decide ((y : Int) < 57344) = true := decide_eq_true (by omega)
        have k1 := K1.out
        have k3 := C3.out
        obtain ⟨k5, k6⟩ := c5
        clear hlen
        go_enter Tryz.func249, Tryz.ntmps249
        go_wp2_with fail
        refine (HN.out _).mono ?_
        rintro e w1 ⟨rfl, hb1⟩
        go_wp2_with fail
        refine (HN2.out _).mono ?_
        rintro e w2 ⟨rfl, hb2⟩
        go_upto_region 7 with (fail)
        clear t1 t2 t3 t4 t5 t6 hlt hlt2 h2 s2 hs'
        go_wp2_with fail
        go_ret2
        refine ⟨?_, hb1.trans (hb2.mono hb1.size)⟩
        rw [HV.out]
        show Ending.returned (.tuple #[.int .i32 _, .int .i64 _]) = _
        congr 5
        unfold pairV; omega
      · have HV := hide (fsV_of (big := big) (l := a :: b :: c :: d :: r') (z := 65533) (n := 2) (by rw [fsS, ← HX.out, if_neg C12.out, if_pos C3.out, fsT, ← HY.out, if_neg c5]))
        have c6 : y < 56320 ∨ (56320 ≤ y ∧ 57344 ≤ y) := by omega
        have c7 : decide ((56320 : Int) ≤ y) = false ∨ (decide ((56320 : Int) ≤ y) = true ∧ decide ((y : Int) < 57344) = false) := by
          rcases c6 with c | ⟨c, c'⟩
          · exact .inl (decide_eq_false (by omega))
          · exact .inr ⟨decide_eq_true (by omega), decide_eq_false (by omega)⟩
        clear c5 c6
        rcases c7 with t5 | ⟨t5, t6⟩
        all_goals
          clear hlen
          go_enter Tryz.func249, Tryz.ntmps249
          go_wp2_with fail
          refine (HN.out _).mono ?_
          rintro e w1 ⟨rfl, hb1⟩
          go_wp2_with fail
          refine (HN2.out _).mono ?_
          rintro e w2 ⟨rfl, hb2⟩
          go_wp2_with fail
          go_ret2
          exact ⟨by rw [HV.out]; rfl, hb1.trans (hb2.mono hb1.size)⟩
    · have HV := hide (fsV_of (big := big) (l := a :: b :: r) (z := 65533) (n := 2) (by
        rw [fsS, ← HX.out, if_neg C12.out, if_pos C3.out]
        match r, hlen with
        | [], _ => rfl
        | [_], _ => rfl
        | _ :: _ :: r', h => simp at h; omega))
      have t4 : decide ((3 : Int) < s.size) = false := decide_eq_false (by omega)
      clear c4
      clear hlen
      go_enter Tryz.func249, Tryz.ntmps249
      go_wp2_with fail
      refine (HN.out _).mono ?_
      rintro e w1 ⟨rfl, hb1⟩
      go_wp2_with fail
      go_ret2
      exact ⟨by rw [HV.out]; rfl, hb1⟩
  · have HV := hide (fsV_of (big := big) (l := a :: b :: r) (z := 65533) (n := 2) (by rw [fsS, ← HX.out, if_neg C12.out, if_neg c3]))
    have t3 : decide ((x : Int) < 56320) = false := decide_eq_false (by omega)
    clear c3
    clear hlen
    go_enter Tryz.func249, Tryz.ntmps249
    go_wp2_with fail
    refine (HN.out _).mono ?_
    rintro e w1 ⟨rfl, hb1⟩
    go_wp2_with fail
    go_ret2
    exact ⟨by rw [HV.out]; rfl, hb1⟩
def szOf4 : Value → Nat
  | .string t => t.size
  | _ => 0
set_option maxRecDepth 100000 in
set_option maxHeartbeats 2000000 in
theorem fromPairs_any (s : ByteArray) (big : Bool) (w : World) (hs : s.size ≤ 1048576) :
    Calls Tryz.prog 228 #[.string s, .int .i64 (hiAt big)] w fun e w' => e = .returned (.string (str (pairsL big s.data.toList))) ∧ Below w.heap.size w w' := by
  have HFS := hide (fun (t : ByteArray) (w : World) (ht : t.size ≤ maxLen) (h2 : 1 < t.size) => firstSign_any t big w ht h2)
  obtain ⟨z, hz⟩ : ∃ z, z = hiAt big := ⟨_, rfl⟩
  rw [← hz] at HFS ⊢
  clear hz
  go_enter Tryz.func228, Tryz.ntmps228
  go_wp2_with (refine wpList_buf_make rfl _ _ rfl w.heap.size w (Below.refl _ _) (Nat.le_refl _) s.size s.size rfl rfl rfl (by omega) ?_; intro v0 w0 hb0)
  go_loopw [0, 5] (fun x v wr => ∃ (t : ByteArray) (acc : List UInt8), x = .string t ∧ Buf w.heap.size v acc w wr ∧ acc.length + 3 * t.size ≤ 3 * s.size ∧ acc ++ pairsL big t.data.toList = pairsL big s.data.toList) (fun x _ _ => szOf4 x)
  case atStart => exact ⟨s, [], rfl, hb0, by simp, by simp⟩
  case round =>
    obtain ⟨t, acc, rfl, hb, hacc, hd⟩ := hrel
    have HB := hide hb
    clear hb
    by_cases hlt : 1 < t.size
    · obtain ⟨p1, p2, p3, p4, p5⟩ := pairs_step big t.data.toList (by rw [toList_length]; omega)
      have p6 := runeL_length (fsS big t.data.toList).1
      rw [p1, ← List.append_assoc] at hd
      rw [toList_length] at p3
      have hF : fsV big t.data.toList = .tuple #[.int .i32 (fsS big t.data.toList).1, .int .i64 (fsS big t.data.toList).2] := rfl
      generalize fsS big t.data.toList = st at hd hF p2 p3 p4 p5 p6
      obtain ⟨r, n⟩ := st
      simp only at hd hF p2 p3 p4 p5 p6
      have p7 : (runeL r).length ≤ 3 * n := by omega
      have p8 : 2 ≤ n := by omega
      have HR := hide hd
      have HF := hide hF
      clear hd hF p1 p2 p6
      go_wp2_with fail
      refine (HFS.out t _ (by unfold maxLen; omega) hlt).mono ?_
      rintro e w1 ⟨rfl, hb1⟩
      rw [HF.out]
      have HB1 := hide (HB.out.kept hb1)
      go_wp2_with fail
      refine (appendRune_any w.heap.size u5 acc w _ HB1.out r (by omega) (by omega) (by omega)).mono ?_
      rintro e w2 ⟨v2, rfl, hb2, _⟩
      have HB2 := hide hb2
      clear hb2
      go_wp2_with fail
      go_roundw
      case rel => exact ⟨t.extract n t.size, acc ++ _, rfl, HB2.out, by rw [ByteArray.size_extract, List.length_append]; omega, by rw [extract_end]; exact HR.out⟩
      case measure => simp [szOf4]; omega
    · have hl := toList_length t
      have hp := pairs_short big t.data.toList (by omega)
      rw [hl] at hp
      by_cases h1 : 0 < t.size
      · rw [hp, if_pos (by omega)] at hd
        have HR := hide hd
        clear hd hp hl
        go_wp2_with fail
        refine (appendRune_any w.heap.size u5 acc w _ HB.out 65533 (by omega) (by omega) (by omega)).mono ?_
        rintro e w2 ⟨v2, rfl, hb2, _⟩
        rw [runeL_bad'] at hb2
        have HB2 := hide hb2
        have hcv := hb2.convert
        clear hb2
        go_wp2_with fail
        go_ret
        exact ⟨ret_str (by rw [HR.out]), HB2.out.below⟩
      · rw [hp, if_neg (by omega), List.append_nil] at hd
        have HR := hide hd
        have hcv := HB.out.convert
        clear hd hp hl
        go_wp2_with fail
        go_ret
        exact ⟨ret_str (by rw [HR.out]), HB.out.below⟩
end Go.Proofs.YtiejmkjpgjbodaaGreatDoor

namespace Go.Proofs.YtiejmkjpgjbodaaGreatDoor
open Go.RowKit
set_option linter.unusedVariables false
set_option linter.unusedSimpArgs false
def decV (k : Nat) (l : List UInt8) : Value := .tuple #[.string (str (decodeL k l)), .bool (decide (0 < k))]
set_option maxHeartbeats 2000000 in
theorem charsDecode_any (label s : ByteArray) (w : World) (hl : label.size ≤ 70368744177664) (hs : s.size ≤ 1048576) (hT : Tab w) :
    Calls Tryz.prog 195 #[.string label, .string s] w fun e w' => e = .returned (decV (kindL label.data.toList) s.data.toList) ∧ Below w.heap.size w w' := by
  have HT := hide hT
  have H0 := hide hT.lt
  clear hT
  have HK := hide (fun (w : World) => known_any label w hl)
  have hk5 := kind_lt label.data.toList
  generalize kindL label.data.toList = k at HK hk5
  have hk : k = 0 ∨ k = 1 ∨ k = 2 ∨ k = 3 ∨ k = 4 := by omega
  clear hk5
  have KV0 : Hid (knownV 0 = .tuple #[.string ⟨#[]⟩, .bool false]) := hide rfl
  have KV1 : Hid (knownV 1 = .tuple #[.string ⟨#[117, 116, 102, 45, 56]⟩, .bool true]) := hide rfl
  have KV2 : Hid (knownV 2 = .tuple #[.string ⟨#[119, 105, 110, 100, 111, 119, 115, 45, 49, 50, 53, 50]⟩, .bool true]) := hide rfl
  have KV3 : Hid (knownV 3 = .tuple #[.string ⟨#[117, 116, 102, 45, 49, 54, 108, 101]⟩, .bool true]) := hide rfl
  have KV4 : Hid (knownV 4 = .tuple #[.string ⟨#[117, 116, 102, 45, 49, 54, 98, 101]⟩, .bool true]) := hide rfl
  have P3 := hide (fun (w : World) => fromPairs_any s false w hs)
  have P4 := hide (fun (w : World) => fromPairs_any s true w hs)
  rw [show hiAt false = 1 from rfl] at P3
  rw [show hiAt true = 0 from rfl] at P4
  rcases hk with rfl | rfl | rfl | rfl | rfl
  · go_enter Tryz.func195, Tryz.ntmps195
    go_wp2_with fail
    refine (HK.out _).mono ?_
    rintro e w1 ⟨rfl, hb1⟩
    rw [KV0.out]
    go_wp2_with fail
    refine (valid_any s _ hs).mono ?_
    rintro e w2 ⟨rfl, hb2⟩
    go_wp2_with fail
    go_ret2
    exact ⟨rfl, hb1.trans (hb2.mono hb1.size)⟩
  · go_enter Tryz.func195, Tryz.ntmps195
    go_wp2_with fail
    refine (HK.out _).mono ?_
    rintro e w1 ⟨rfl, hb1⟩
    rw [KV1.out]
    go_wp2_with fail
    refine (valid_any s _ hs).mono ?_
    rintro e w2 ⟨rfl, hb2⟩
    go_wp2_with fail
    go_ret2
    exact ⟨rfl, hb1.trans (hb2.mono hb1.size)⟩
  · go_enter Tryz.func195, Tryz.ntmps195
    go_wp2_with fail
    refine (HK.out _).mono ?_
    rintro e w1 ⟨rfl, hb1⟩
    rw [KV2.out]
    go_wp2_with fail
    refine (fromWindows_any s _ hs (HT.out.below hb1 H0.out)).mono ?_
    rintro e w2 ⟨rfl, hb2⟩
    go_wp2_with fail
    go_ret2
    exact ⟨rfl, hb1.trans (hb2.mono hb1.size)⟩
  · go_enter Tryz.func195, Tryz.ntmps195
    go_wp2_with fail
    refine (HK.out _).mono ?_
    rintro e w1 ⟨rfl, hb1⟩
    rw [KV3.out]
    go_wp2_with fail
    refine (P3.out _).mono ?_
    rintro e w2 ⟨rfl, hb2⟩
    go_wp2_with fail
    go_ret2
    exact ⟨rfl, hb1.trans (hb2.mono hb1.size)⟩
  · go_enter Tryz.func195, Tryz.ntmps195
    go_wp2_with fail
    refine (HK.out _).mono ?_
    rintro e w1 ⟨rfl, hb1⟩
    rw [KV4.out]
    go_wp2_with fail
    refine (P4.out _).mono ?_
    rintro e w2 ⟨rfl, hb2⟩
    go_wp2_with fail
    go_ret2
    exact ⟨rfl, hb1.trans (hb2.mono hb1.size)⟩
end Go.Proofs.YtiejmkjpgjbodaaGreatDoor

namespace Go.Proofs.YtiejmkjpgjbodaaGreatDoor
open Go.RowKit
set_option linter.unusedVariables false
set_option linter.unusedSimpArgs false
set_option maxRecDepth 100000
def signN (n : Nat) : Int := if n = 0 ∨ 1114111 < n ∨ (55296 ≤ n ∧ n ≤ 57343) then 65533 else if 128 ≤ n ∧ n ≤ 159 then winR (UInt8.ofNat n) else n
theorem win_dec (c : UInt8) : (decL (runeL (winR c))).1 = (winR c).toNat ∧ 0 ≤ winR c := by
  have := u8_all (p := fun c => (decL (runeL (winR c))).1 = (winR c).toNat ∧ 0 ≤ winR c) (by decide +kernel) c
  exact this
theorem dec_win (c : UInt8) : Lib.decodeGo (str (runeL (winR c))) = ((winR c).toNat, (decL (runeL (winR c))).2) := by
  have hl := (runeL_length (winR c)).1
  have hz : (str (runeL (winR c))).size ≠ 0 := by rw [str_size]; omega
  unfold Lib.decodeGo
  rw [if_neg hz, decode_decL _ _ (by omega), List.drop_zero, str_toList]
  exact Prod.ext (win_dec c).1 rfl
theorem signN_window {n : Nat} (h1 : 128 ≤ n) (h2 : n ≤ 159) : signN n = winR (UInt8.ofNat n) := by
  unfold signN; rw [if_neg (by omega), if_pos ⟨h1, h2⟩]
theorem signN_bad {n : Nat} (h : n = 0 ∨ 1114111 < n ∨ (55296 ≤ n ∧ n ≤ 57343)) : signN n = 65533 := by unfold signN; rw [if_pos h]
theorem signN_own {n : Nat} (h : ¬ (n = 0 ∨ 1114111 < n ∨ (55296 ≤ n ∧ n ≤ 57343))) (h' : ¬ (128 ≤ n ∧ n ≤ 159)) : signN n = n := by unfold signN; rw [if_neg h, if_neg h']
theorem tabs_lt {w : World} (h : Lib.Utf8Tabs 4 5 w) : 4 < w.heap.size ∧ 5 < w.heap.size :=
  ⟨World.block_lt_of_cell? _ _ (h.1 0 (by decide)), World.block_lt_of_cell? _ _ (h.2 0 (by decide)).1⟩
theorem tabs_kept {w w' : World} (h : Lib.Utf8Tabs 4 5 w) (hb : Below w.heap.size w w') : Lib.Utf8Tabs 4 5 w' := by
  obtain ⟨l1, l2⟩ := tabs_lt h
  exact ⟨fun c hc => (hb.cell (p := ⟨4, c, none⟩) l1).trans (h.1 c hc), fun i hi => ⟨(hb.cell (p := ⟨5, 2 * i, none⟩) l2).trans (h.2 i hi).1, (hb.cell (p := ⟨5, 2 * i + 1, none⟩) l2).trans (h.2 i hi).2⟩⟩
theorem kind_win : kindL [119, 105, 110, 100, 111, 119, 115, 45, 49, 50, 53, 50] = 2 := by decide +kernel
set_option maxHeartbeats 4000000 in
theorem signOf_any (n : Nat) (w : World) (hn : n < 2147483648) (hT : Tab w) (hU : Lib.Utf8Tabs 4 5 w) :
    Calls Tryz.prog 171 #[.int .i32 n] w fun e w' => e = .returned (.int .i32 (signN n)) ∧ Below w.heap.size w w' := by
  by_cases c0 : n = 0
  · have HR : Hid (signN n = 65533) := hide (signN_bad (.inl c0))
    subst c0
    go_enter Tryz.func171, Tryz.ntmps171
    go_wp2_with fail
    go_ret
    exact ⟨by rw [HR.out]; rfl, Below.refl _ _⟩
  have t0 : ((n : Int) == 0) = false := beq_eq_false_iff_ne.2 (by omega)
  by_cases c1 : 1114111 < n
  · have HR : Hid (signN n = 65533) := hide (signN_bad (.inr (.inl c1)))
    have t1 : decide ((1114111 : Int) < n) = true := decide_eq_true (by omega)
    clear c0
    go_enter Tryz.func171, Tryz.ntmps171
    go_wp2_with fail
    go_ret
    exact ⟨by rw [HR.out]; rfl, Below.refl _ _⟩
  have t1 : decide ((1114111 : Int) < n) = false := decide_eq_false (by omega)
  by_cases c2 : 55296 ≤ n
  · have t2 : decide ((55296 : Int) ≤ n) = true := decide_eq_true (by omega)
    by_cases c3 : n ≤ 57343
    · have HR : Hid (signN n = 65533) := hide (signN_bad (.inr (.inr ⟨c2, c3⟩)))
      have t3 : decide ((n : Int) ≤ 57343) = true := decide_eq_true (by omega)
      clear c0 c1 c2 c3
      go_enter Tryz.func171, Tryz.ntmps171
      go_wp2_with fail
      go_ret
      exact ⟨by rw [HR.out]; rfl, Below.refl _ _⟩
    · have HR : Hid (signN n = n) := hide (signN_own (by omega) (by omega))
      have t3 : decide ((n : Int) ≤ 57343) = false := decide_eq_false (by omega)
      have t4 : decide ((128 : Int) ≤ n) = true := decide_eq_true (by omega)
      have t5 : decide ((n : Int) ≤ 159) = false := decide_eq_false (by omega)
      clear c0 c1 c2 c3
      go_enter Tryz.func171, Tryz.ntmps171
      go_wp2_with fail
      go_ret
      exact ⟨by rw [HR.out]; rfl, Below.refl _ _⟩
  have t2 : decide ((55296 : Int) ≤ n) = false := decide_eq_false (by omega)
  by_cases c4 : 128 ≤ n
  · have t4 : decide ((128 : Int) ≤ n) = true := decide_eq_true (by omega)
    by_cases c5 : n ≤ 159
    · have t5 : decide ((n : Int) ≤ 159) = true := decide_eq_true (by omega)
      obtain ⟨c, hc⟩ : ∃ c, c = UInt8.ofNat n := ⟨_, rfl⟩
      have hcn : c.toNat = n := by rw [hc, UInt8.toNat_ofNat', Nat.mod_eq_of_lt (by omega)]
      have HR : Hid (signN n = winR c) := hide (by rw [hc]; exact signN_window c4 c5)
      have x1 : IntKind.u8.wrap (n : Int) = (n : Int) := IntWalk.u8_in _ (by omega)
      have hbs : strOfNums [(n : Int)] = ⟨#[c]⟩ := by rw [← hcn]; apply ext_list; rw [nums_list]; simp
      have hcv := conv1 w (n : Int)
      rw [hbs] at hcv
      have HD := hide (fun w1 (h1 : Tab w1) => charsDecode_any ⟨#[119, 105, 110, 100, 111, 119, 115, 45, 49, 50, 53, 50]⟩ ⟨#[c]⟩ w1 (by decide) (by show (⟨#[c]⟩ : ByteArray).size ≤ _; rw [show (⟨#[c]⟩ : ByteArray).size = 1 from rfl]; decide) h1)
      have eD : decV (kindL (⟨#[119, 105, 110, 100, 111, 119, 115, 45, 49, 50, 53, 50]⟩ : ByteArray).data.toList) (⟨#[c]⟩ : ByteArray).data.toList = .tuple #[.string (str (runeL (winR c))), .bool true] := by
        rw [show (⟨#[119, 105, 110, 100, 111, 119, 115, 45, 49, 50, 53, 50]⟩ : ByteArray).data.toList = [119, 105, 110, 100, 111, 119, 115, 45, 49, 50, 53, 50] from rfl, kind_win]
        show Value.tuple #[.string (str (winL [c])), .bool true] = _
        rw [winL_cons]
        show Value.tuple #[.string (str (runeL (winR c) ++ [])), .bool true] = _
        rw [List.append_nil]
      rw [eD] at HD
      have HU := hide (fun w1 h1 => Tryz.utf8_DecodeRuneInString (str (runeL (winR c))) w1 h1)
      rw [dec_win] at HU
      have hp : ((winR c).toNat : Int) = winR c := Int.toNat_of_nonneg (win_dec c).2
      rw [show (((winR c).toNat, (decL (runeL (winR c))).2) : Nat × Nat).1 = (winR c).toNat from rfl, hp] at HU
      have KB : Hid (Below w.heap.size w (w.alloc (.cells #[.int .u8 (n : Int)] 5))) := hide ((Below.refl _ _).alloc (Nat.le_refl _) _)
      have HT := hide (hT.below KB.out hT.lt)
      have HTU := hide hU
      obtain ⟨S, hS⟩ : ∃ S, str (runeL (winR c)) = S := ⟨_, rfl⟩
      obtain ⟨R, hR⟩ : ∃ R, winR c = R := ⟨_, rfl⟩
      rw [hS] at HD HU
      rw [hR] at HU HR
      clear c0 c1 c2 c4 c5 hc hcn hbs eD hp hS hR hT hU
      go_enter Tryz.func171, Tryz.ntmps171
      go_wp2_with (first
        | (go_at_call 195; refine (HD.out _ HT.out).mono ?_; rintro e w1 ⟨rfl, hb1⟩; have HB1 := hide (KB.out.trans (hb1.mono KB.out.size)); clear hb1)
        | (go_at_call 196; refine (HU.out _ (tabs_kept HTU.out HB1.out)).mono ?_; rintro e w2 ⟨rfl, hb2⟩; have HB2 := hide (HB1.out.trans (hb2.mono HB1.out.size)); clear hb2))
      go_ret
      exact ⟨by rw [HR.out]; rfl, HB2.out⟩
    · have HR : Hid (signN n = n) := hide (signN_own (by omega) (by omega))
      have t5 : decide ((n : Int) ≤ 159) = false := decide_eq_false (by omega)
      clear c0 c1 c2 c4 c5
      go_enter Tryz.func171, Tryz.ntmps171
      go_wp2_with fail
      go_ret
      exact ⟨by rw [HR.out]; rfl, Below.refl _ _⟩
  · have HR : Hid (signN n = n) := hide (signN_own (by omega) (by omega))
    have t4 : decide ((128 : Int) ≤ n) = false := decide_eq_false (by omega)
    clear c0 c1 c2 c4
    go_enter Tryz.func171, Tryz.ntmps171
    go_wp2_with fail
    go_ret
    exact ⟨by rw [HR.out]; rfl, Below.refl _ _⟩
end Go.Proofs.YtiejmkjpgjbodaaGreatDoor

namespace Go.Proofs.YtiejmkjpgjbodaaGreatDoor
open Go.RowKit
set_option linter.unusedVariables false
set_option linter.unusedSimpArgs false
set_option maxRecDepth 100000
def numAt (b most : Nat) (l : List UInt8) : Option Int :=
  match parseU b l with
  | none => none
  | some n => if most < l.length then none else some (signN n)
def entV : Option Int → Value
  | some x => .tuple #[.int .i32 x, .bool true]
  | none => .tuple #[.int .i32 0, .bool false]
theorem parseB_lt {b : Nat} (hb : 0 < b) (l : List UInt8) : ∀ m n, parseB b m l = some n → n + 1 ≤ (m + 1) * b ^ l.length := by
  induction l with
  | nil => intro m n h; injection h with h; subst h; simp
  | cons c r ih =>
    intro m n h
    rw [parseB] at h
    unfold digB at h
    by_cases hd : dgV c < b
    · rw [if_pos hd] at h
      have h1 := ih _ _ h
      have h2 : m * b + dgV c + 1 ≤ (m + 1) * b := by rw [Nat.succ_mul]; omega
      have h3 := Nat.mul_le_mul_right (b ^ r.length) h2
      rw [List.length_cons, Nat.pow_succ, Nat.mul_comm (b ^ r.length) b, ← Nat.mul_assoc]
      exact Nat.le_trans h1 h3
    · rw [if_neg hd] at h; cases h
theorem parse_lt {b : Nat} {l : List UInt8} (hb : 0 < b) : ∀ n, parseU b l = some n → n < b ^ l.length := by
  intro n h
  unfold parseU at h
  split at h
  · cases h
  · have := parseB_lt hb l 0 n h
    rw [Nat.zero_add, Nat.one_mul] at this
    exact this
theorem pref_size {D : ByteArray} {c : UInt8} (h : Lib.hasPrefix D.data.toList [c] = true) : 1 ≤ D.size := by
  rw [← toList_length]
  cases hl : D.data.toList with
  | nil => rw [hl] at h; cases h
  | cons a r => exact Nat.succ_pos _
set_option maxHeartbeats 4000000 in
theorem byNumber_x (D : ByteArray) (ev : Value) (w : World) (hs : D.size ≤ 8) (p1 : Lib.hasPrefix D.data.toList [120] = true) (hT : Tab w) (hU : Lib.Utf8Tabs 4 5 w)
    (hv : w.cell? ⟨1, 0, none⟩ = some ev) (hev : ev = .nilIface ∨ ∃ te pe, ev = .iface te pe) :
    Calls Tryz.prog 146 #[.string D] w fun e w' => e = .returned (entV (numAt 16 6 (D.extract 1 D.size).data.toList)) ∧ Below w.heap.size w w' := by
  have z1 : 1 ≤ D.size := pref_size p1
  have k1 : (1 : Int) ≤ D.size := by omega
  have P1 : Hid (Lib.hasPrefix D.data.toList [120] = true) := hide p1
  have HT := hide hT
  have HTU := hide hU
  have HC := hide (fun w1 (hb : Below w.heap.size w w1) => parse16_any (D.extract 1 D.size) ev w1 (Nat.le_trans (by rw [ByteArray.size_extract]; omega) hs) ((hb.cell (p := ⟨1, 0, none⟩) (World.block_lt_of_cell? _ _ hv)).trans hv) hev)
  have tok1 : True := trivial
  have tok2 : True := trivial
  have hrl : (D.extract 1 D.size).size = (D.size - 1) := (by rw [ByteArray.size_extract]; omega)
  have HB0 := hide (parse_lt (b := 16) (l := (D.extract 1 D.size).data.toList) (by decide))
  cases hu : parseU 16 (D.extract 1 D.size).data.toList with
  | none =>
    have HU := hide hu
    have HR : Hid (numAt 16 6 (D.extract 1 D.size).data.toList = none) := hide (by unfold numAt; rw [hu])
    clear hu hT hU hv hev p1
    go_enter Tryz.func146, Tryz.ntmps146
    go_wp2_with (first
      | (go_at_call 65; have _t := tok1; refine (Tryz.strings_HasPrefix D ⟨#[120]⟩ _).mono ?_; rintro e w1 ⟨rfl, hw1⟩; obtain rfl := hw1.symm; rw [show (⟨#[120]⟩ : ByteArray).data.toList = [120] from rfl, P1.out]; clear tok1)
      | (go_at_call 170; refine (HC.out _ (Below.refl _ _)).mono ?_; rintro e w1 ⟨he, hb1⟩; rw [HU.out] at he; obtain ⟨N, rfl⟩ := he; have HB1 := hide hb1; clear hb1)
      | (go_at_call 171; refine (signOf_any _ _ HN31.out (HT.out.below HB1.out HT.out.lt) (tabs_kept HTU.out HB1.out)).mono ?_; rintro e w2 ⟨rfl, hb2⟩; have HB2 := hide (HB1.out.trans (hb2.mono HB1.out.size)); clear hb2))
    go_ret2
    exact ⟨by rw [HR.out]; rfl, HB1.out⟩
  | some n =>
    have HU := hide hu
    have hlt := HB0.out n hu
    rw [toList_length, hrl] at hlt
    by_cases hm : 6 < (D.size - 1)
    · have HR : Hid (numAt 16 6 (D.extract 1 D.size).data.toList = none) := hide (by unfold numAt; rw [hu]; simp only []; rw [toList_length, hrl, if_pos hm])
      have t1 : decide ((6 : Int) < ((D.extract 1 D.size).size : Int)) = true := decide_eq_true (by rw [hrl]; omega)
      have t2 : decide (6 < (D.extract 1 D.size).size) = true := decide_eq_true (by rw [hrl]; exact hm)
      have t3 : decide ((6 : Int) < (((D.size - 1) : Nat) : Int)) = true := decide_eq_true (by omega)
      have t4 : decide (6 < (D.size - 1)) = true := decide_eq_true hm
      clear hu hT hU hv hev p1 hlt hm hrl
      go_enter Tryz.func146, Tryz.ntmps146
      go_wp2_with (first
      | (go_at_call 65; have _t := tok1; refine (Tryz.strings_HasPrefix D ⟨#[120]⟩ _).mono ?_; rintro e w1 ⟨rfl, hw1⟩; obtain rfl := hw1.symm; rw [show (⟨#[120]⟩ : ByteArray).data.toList = [120] from rfl, P1.out]; clear tok1)
      | (go_at_call 170; refine (HC.out _ (Below.refl _ _)).mono ?_; rintro e w1 ⟨he, hb1⟩; rw [HU.out] at he; obtain rfl := he; have HB1 := hide hb1; clear hb1)
      | (go_at_call 171; refine (signOf_any _ _ HN31.out (HT.out.below HB1.out HT.out.lt) (tabs_kept HTU.out HB1.out)).mono ?_; rintro e w2 ⟨rfl, hb2⟩; have HB2 := hide (HB1.out.trans (hb2.mono HB1.out.size)); clear hb2))
      go_ret2
      exact ⟨by rw [HR.out]; rfl, HB1.out⟩
    · have HR : Hid (numAt 16 6 (D.extract 1 D.size).data.toList = some (signN n)) := hide (by unfold numAt; rw [hu]; simp only []; rw [toList_length, hrl, if_neg hm])
      have t1 : decide ((6 : Int) < ((D.extract 1 D.size).size : Int)) = false := decide_eq_false (by rw [hrl]; omega)
      have t2 : decide (6 < (D.extract 1 D.size).size) = false := decide_eq_false (by rw [hrl]; exact hm)
      have t3 : decide ((6 : Int) < (((D.size - 1) : Nat) : Int)) = false := decide_eq_false (by omega)
      have t4 : decide (6 < (D.size - 1)) = false := decide_eq_false hm
      have hn31 : n < 2147483648 := Nat.lt_of_lt_of_le hlt (Nat.le_trans (Nat.pow_le_pow_right (by decide) (by omega : (D.size - 1) ≤ 6)) (by decide))
      have HN31 := hide hn31
      have x1 : IntKind.i32.wrap (n : Int) = (n : Int) := IntWalk.i32_in _ (by omega)
      clear hu hT hU hv hev p1 hlt hm hrl hn31
      go_enter Tryz.func146, Tryz.ntmps146
      go_wp2_with (first
      | (go_at_call 65; have _t := tok1; refine (Tryz.strings_HasPrefix D ⟨#[120]⟩ _).mono ?_; rintro e w1 ⟨rfl, hw1⟩; obtain rfl := hw1.symm; rw [show (⟨#[120]⟩ : ByteArray).data.toList = [120] from rfl, P1.out]; clear tok1)
      | (go_at_call 170; refine (HC.out _ (Below.refl _ _)).mono ?_; rintro e w1 ⟨he, hb1⟩; rw [HU.out] at he; obtain rfl := he; have HB1 := hide hb1; clear hb1)
      | (go_at_call 171; refine (signOf_any _ _ HN31.out (HT.out.below HB1.out HT.out.lt) (tabs_kept HTU.out HB1.out)).mono ?_; rintro e w2 ⟨rfl, hb2⟩; have HB2 := hide (HB1.out.trans (hb2.mono HB1.out.size)); clear hb2))
      go_ret2
      exact ⟨by rw [HR.out]; rfl, HB2.out⟩
set_option maxHeartbeats 4000000 in
theorem byNumber_X (D : ByteArray) (ev : Value) (w : World) (hs : D.size ≤ 8) (p1 : Lib.hasPrefix D.data.toList [120] = false) (p2 : Lib.hasPrefix D.data.toList [88] = true) (hT : Tab w) (hU : Lib.Utf8Tabs 4 5 w)
    (hv : w.cell? ⟨1, 0, none⟩ = some ev) (hev : ev = .nilIface ∨ ∃ te pe, ev = .iface te pe) :
    Calls Tryz.prog 146 #[.string D] w fun e w' => e = .returned (entV (numAt 16 6 (D.extract 1 D.size).data.toList)) ∧ Below w.heap.size w w' := by
  have z1 : 1 ≤ D.size := pref_size p2
  have k1 : (1 : Int) ≤ D.size := by omega
  have P1 : Hid (Lib.hasPrefix D.data.toList [120] = false) := hide p1
  have P2 : Hid (Lib.hasPrefix D.data.toList [88] = true) := hide p2
  have HT := hide hT
  have HTU := hide hU
  have HC := hide (fun w1 (hb : Below w.heap.size w w1) => parse16_any (D.extract 1 D.size) ev w1 (Nat.le_trans (by rw [ByteArray.size_extract]; omega) hs) ((hb.cell (p := ⟨1, 0, none⟩) (World.block_lt_of_cell? _ _ hv)).trans hv) hev)
  have tok1 : True := trivial
  have tok2 : True := trivial
  have hrl : (D.extract 1 D.size).size = (D.size - 1) := (by rw [ByteArray.size_extract]; omega)
  have HB0 := hide (parse_lt (b := 16) (l := (D.extract 1 D.size).data.toList) (by decide))
  cases hu : parseU 16 (D.extract 1 D.size).data.toList with
  | none =>
    have HU := hide hu
    have HR : Hid (numAt 16 6 (D.extract 1 D.size).data.toList = none) := hide (by unfold numAt; rw [hu])
    clear hu hT hU hv hev p1 p2
    go_enter Tryz.func146, Tryz.ntmps146
    go_wp2_with (first
      | (go_at_call 65; have _t := tok1; refine (Tryz.strings_HasPrefix D ⟨#[120]⟩ _).mono ?_; rintro e w1 ⟨rfl, hw1⟩; obtain rfl := hw1.symm; rw [show (⟨#[120]⟩ : ByteArray).data.toList = [120] from rfl, P1.out]; clear tok1)
      | (go_at_call 65; have _t := tok2; refine (Tryz.strings_HasPrefix D ⟨#[88]⟩ _).mono ?_; rintro e w1 ⟨rfl, hw1⟩; obtain rfl := hw1.symm; rw [show (⟨#[88]⟩ : ByteArray).data.toList = [88] from rfl, P2.out]; clear tok2)
      | (go_at_call 170; refine (HC.out _ (Below.refl _ _)).mono ?_; rintro e w1 ⟨he, hb1⟩; rw [HU.out] at he; obtain ⟨N, rfl⟩ := he; have HB1 := hide hb1; clear hb1)
      | (go_at_call 171; refine (signOf_any _ _ HN31.out (HT.out.below HB1.out HT.out.lt) (tabs_kept HTU.out HB1.out)).mono ?_; rintro e w2 ⟨rfl, hb2⟩; have HB2 := hide (HB1.out.trans (hb2.mono HB1.out.size)); clear hb2))
    go_ret2
    exact ⟨by rw [HR.out]; rfl, HB1.out⟩
  | some n =>
    have HU := hide hu
    have hlt := HB0.out n hu
    rw [toList_length, hrl] at hlt
    by_cases hm : 6 < (D.size - 1)
    · have HR : Hid (numAt 16 6 (D.extract 1 D.size).data.toList = none) := hide (by unfold numAt; rw [hu]; simp only []; rw [toList_length, hrl, if_pos hm])
      have t1 : decide ((6 : Int) < ((D.extract 1 D.size).size : Int)) = true := decide_eq_true (by rw [hrl]; omega)
      have t2 : decide (6 < (D.extract 1 D.size).size) = true := decide_eq_true (by rw [hrl]; exact hm)
      have t3 : decide ((6 : Int) < (((D.size - 1) : Nat) : Int)) = true := decide_eq_true (by omega)
      have t4 : decide (6 < (D.size - 1)) = true := decide_eq_true hm
      clear hu hT hU hv hev p1 p2 hlt hm hrl
      go_enter Tryz.func146, Tryz.ntmps146
      go_wp2_with (first
      | (go_at_call 65; have _t := tok1; refine (Tryz.strings_HasPrefix D ⟨#[120]⟩ _).mono ?_; rintro e w1 ⟨rfl, hw1⟩; obtain rfl := hw1.symm; rw [show (⟨#[120]⟩ : ByteArray).data.toList = [120] from rfl, P1.out]; clear tok1)
      | (go_at_call 65; have _t := tok2; refine (Tryz.strings_HasPrefix D ⟨#[88]⟩ _).mono ?_; rintro e w1 ⟨rfl, hw1⟩; obtain rfl := hw1.symm; rw [show (⟨#[88]⟩ : ByteArray).data.toList = [88] from rfl, P2.out]; clear tok2)
      | (go_at_call 170; refine (HC.out _ (Below.refl _ _)).mono ?_; rintro e w1 ⟨he, hb1⟩; rw [HU.out] at he; obtain rfl := he; have HB1 := hide hb1; clear hb1)
      | (go_at_call 171; refine (signOf_any _ _ HN31.out (HT.out.below HB1.out HT.out.lt) (tabs_kept HTU.out HB1.out)).mono ?_; rintro e w2 ⟨rfl, hb2⟩; have HB2 := hide (HB1.out.trans (hb2.mono HB1.out.size)); clear hb2))
      go_ret2
      exact ⟨by rw [HR.out]; rfl, HB1.out⟩
    · have HR : Hid (numAt 16 6 (D.extract 1 D.size).data.toList = some (signN n)) := hide (by unfold numAt; rw [hu]; simp only []; rw [toList_length, hrl, if_neg hm])
      have t1 : decide ((6 : Int) < ((D.extract 1 D.size).size : Int)) = false := decide_eq_false (by rw [hrl]; omega)
      have t2 : decide (6 < (D.extract 1 D.size).size) = false := decide_eq_false (by rw [hrl]; exact hm)
      have t3 : decide ((6 : Int) < (((D.size - 1) : Nat) : Int)) = false := decide_eq_false (by omega)
      have t4 : decide (6 < (D.size - 1)) = false := decide_eq_false hm
      have hn31 : n < 2147483648 := Nat.lt_of_lt_of_le hlt (Nat.le_trans (Nat.pow_le_pow_right (by decide) (by omega : (D.size - 1) ≤ 6)) (by decide))
      have HN31 := hide hn31
      have x1 : IntKind.i32.wrap (n : Int) = (n : Int) := IntWalk.i32_in _ (by omega)
      clear hu hT hU hv hev p1 p2 hlt hm hrl hn31
      go_enter Tryz.func146, Tryz.ntmps146
      go_wp2_with (first
      | (go_at_call 65; have _t := tok1; refine (Tryz.strings_HasPrefix D ⟨#[120]⟩ _).mono ?_; rintro e w1 ⟨rfl, hw1⟩; obtain rfl := hw1.symm; rw [show (⟨#[120]⟩ : ByteArray).data.toList = [120] from rfl, P1.out]; clear tok1)
      | (go_at_call 65; have _t := tok2; refine (Tryz.strings_HasPrefix D ⟨#[88]⟩ _).mono ?_; rintro e w1 ⟨rfl, hw1⟩; obtain rfl := hw1.symm; rw [show (⟨#[88]⟩ : ByteArray).data.toList = [88] from rfl, P2.out]; clear tok2)
      | (go_at_call 170; refine (HC.out _ (Below.refl _ _)).mono ?_; rintro e w1 ⟨he, hb1⟩; rw [HU.out] at he; obtain rfl := he; have HB1 := hide hb1; clear hb1)
      | (go_at_call 171; refine (signOf_any _ _ HN31.out (HT.out.below HB1.out HT.out.lt) (tabs_kept HTU.out HB1.out)).mono ?_; rintro e w2 ⟨rfl, hb2⟩; have HB2 := hide (HB1.out.trans (hb2.mono HB1.out.size)); clear hb2))
      go_ret2
      exact ⟨by rw [HR.out]; rfl, HB2.out⟩
set_option maxHeartbeats 4000000 in
theorem byNumber_d (D : ByteArray) (ev : Value) (w : World) (hs : D.size ≤ 8) (p1 : Lib.hasPrefix D.data.toList [120] = false) (p2 : Lib.hasPrefix D.data.toList [88] = false) (hT : Tab w) (hU : Lib.Utf8Tabs 4 5 w)
    (hv : w.cell? ⟨1, 0, none⟩ = some ev) (hev : ev = .nilIface ∨ ∃ te pe, ev = .iface te pe) :
    Calls Tryz.prog 146 #[.string D] w fun e w' => e = .returned (entV (numAt 10 7 D.data.toList)) ∧ Below w.heap.size w w' := by
  have P1 : Hid (Lib.hasPrefix D.data.toList [120] = false) := hide p1
  have P2 : Hid (Lib.hasPrefix D.data.toList [88] = false) := hide p2
  have HT := hide hT
  have HTU := hide hU
  have HC := hide (fun w1 (hb : Below w.heap.size w w1) => parse10_any D ev w1 hs ((hb.cell (p := ⟨1, 0, none⟩) (World.block_lt_of_cell? _ _ hv)).trans hv) hev)
  have tok1 : True := trivial
  have tok2 : True := trivial
  have hrl : D.size = D.size := rfl
  have HB0 := hide (parse_lt (b := 10) (l := D.data.toList) (by decide))
  cases hu : parseU 10 D.data.toList with
  | none =>
    have HU := hide hu
    have HR : Hid (numAt 10 7 D.data.toList = none) := hide (by unfold numAt; rw [hu])
    clear hu hT hU hv hev p1 p2
    go_enter Tryz.func146, Tryz.ntmps146
    go_wp2_with (first
      | (go_at_call 65; have _t := tok1; refine (Tryz.strings_HasPrefix D ⟨#[120]⟩ _).mono ?_; rintro e w1 ⟨rfl, hw1⟩; obtain rfl := hw1.symm; rw [show (⟨#[120]⟩ : ByteArray).data.toList = [120] from rfl, P1.out]; clear tok1)
      | (go_at_call 65; have _t := tok2; refine (Tryz.strings_HasPrefix D ⟨#[88]⟩ _).mono ?_; rintro e w1 ⟨rfl, hw1⟩; obtain rfl := hw1.symm; rw [show (⟨#[88]⟩ : ByteArray).data.toList = [88] from rfl, P2.out]; clear tok2)
      | (go_at_call 170; refine (HC.out _ (Below.refl _ _)).mono ?_; rintro e w1 ⟨he, hb1⟩; rw [HU.out] at he; obtain ⟨N, rfl⟩ := he; have HB1 := hide hb1; clear hb1)
      | (go_at_call 171; refine (signOf_any _ _ HN31.out (HT.out.below HB1.out HT.out.lt) (tabs_kept HTU.out HB1.out)).mono ?_; rintro e w2 ⟨rfl, hb2⟩; have HB2 := hide (HB1.out.trans (hb2.mono HB1.out.size)); clear hb2))
    go_ret2
    exact ⟨by rw [HR.out]; rfl, HB1.out⟩
  | some n =>
    have HU := hide hu
    have hlt := HB0.out n hu
    rw [toList_length, hrl] at hlt
    by_cases hm : 7 < D.size
    · have HR : Hid (numAt 10 7 D.data.toList = none) := hide (by unfold numAt; rw [hu]; simp only []; rw [toList_length, hrl, if_pos hm])
      have t1 : decide ((7 : Int) < (D.size : Int)) = true := decide_eq_true (by rw [hrl]; omega)
      have t2 : decide (7 < D.size) = true := decide_eq_true (by rw [hrl]; exact hm)
      have t3 : decide ((7 : Int) < ((D.size : Nat) : Int)) = true := decide_eq_true (by omega)
      have t4 : decide (7 < D.size) = true := decide_eq_true hm
      clear hu hT hU hv hev p1 p2 hlt hm hrl
      go_enter Tryz.func146, Tryz.ntmps146
      go_wp2_with (first
      | (go_at_call 65; have _t := tok1; refine (Tryz.strings_HasPrefix D ⟨#[120]⟩ _).mono ?_; rintro e w1 ⟨rfl, hw1⟩; obtain rfl := hw1.symm; rw [show (⟨#[120]⟩ : ByteArray).data.toList = [120] from rfl, P1.out]; clear tok1)
      | (go_at_call 65; have _t := tok2; refine (Tryz.strings_HasPrefix D ⟨#[88]⟩ _).mono ?_; rintro e w1 ⟨rfl, hw1⟩; obtain rfl := hw1.symm; rw [show (⟨#[88]⟩ : ByteArray).data.toList = [88] from rfl, P2.out]; clear tok2)
      | (go_at_call 170; refine (HC.out _ (Below.refl _ _)).mono ?_; rintro e w1 ⟨he, hb1⟩; rw [HU.out] at he; obtain rfl := he; have HB1 := hide hb1; clear hb1)
      | (go_at_call 171; refine (signOf_any _ _ HN31.out (HT.out.below HB1.out HT.out.lt) (tabs_kept HTU.out HB1.out)).mono ?_; rintro e w2 ⟨rfl, hb2⟩; have HB2 := hide (HB1.out.trans (hb2.mono HB1.out.size)); clear hb2))
      go_ret2
      exact ⟨by rw [HR.out]; rfl, HB1.out⟩
    · have HR : Hid (numAt 10 7 D.data.toList = some (signN n)) := hide (by unfold numAt; rw [hu]; simp only []; rw [toList_length, hrl, if_neg hm])
      have t1 : decide ((7 : Int) < (D.size : Int)) = false := decide_eq_false (by rw [hrl]; omega)
      have t2 : decide (7 < D.size) = false := decide_eq_false (by rw [hrl]; exact hm)
      have t3 : decide ((7 : Int) < ((D.size : Nat) : Int)) = false := decide_eq_false (by omega)
      have t4 : decide (7 < D.size) = false := decide_eq_false hm
      have hn31 : n < 2147483648 := Nat.lt_of_lt_of_le hlt (Nat.le_trans (Nat.pow_le_pow_right (by decide) (by omega : D.size ≤ 7)) (by decide))
      have HN31 := hide hn31
      have x1 : IntKind.i32.wrap (n : Int) = (n : Int) := IntWalk.i32_in _ (by omega)
      clear hu hT hU hv hev p1 p2 hlt hm hrl hn31
      go_enter Tryz.func146, Tryz.ntmps146
      go_wp2_with (first
      | (go_at_call 65; have _t := tok1; refine (Tryz.strings_HasPrefix D ⟨#[120]⟩ _).mono ?_; rintro e w1 ⟨rfl, hw1⟩; obtain rfl := hw1.symm; rw [show (⟨#[120]⟩ : ByteArray).data.toList = [120] from rfl, P1.out]; clear tok1)
      | (go_at_call 65; have _t := tok2; refine (Tryz.strings_HasPrefix D ⟨#[88]⟩ _).mono ?_; rintro e w1 ⟨rfl, hw1⟩; obtain rfl := hw1.symm; rw [show (⟨#[88]⟩ : ByteArray).data.toList = [88] from rfl, P2.out]; clear tok2)
      | (go_at_call 170; refine (HC.out _ (Below.refl _ _)).mono ?_; rintro e w1 ⟨he, hb1⟩; rw [HU.out] at he; obtain rfl := he; have HB1 := hide hb1; clear hb1)
      | (go_at_call 171; refine (signOf_any _ _ HN31.out (HT.out.below HB1.out HT.out.lt) (tabs_kept HTU.out HB1.out)).mono ?_; rintro e w2 ⟨rfl, hb2⟩; have HB2 := hide (HB1.out.trans (hb2.mono HB1.out.size)); clear hb2))
      go_ret2
      exact ⟨by rw [HR.out]; rfl, HB2.out⟩
end Go.Proofs.YtiejmkjpgjbodaaGreatDoor

namespace Go.Proofs.YtiejmkjpgjbodaaGreatDoor
open Go.RowKit
set_option linter.unusedVariables false
set_option linter.unusedSimpArgs false
theorem index_cut (c : UInt8) (l : List UInt8) : (Lib.indexByte l c = -1 ∧ c ∉ l ∧ beforeC c l = l ∧ afterC c l = []) ∨ ∃ o : Nat, Lib.indexByte l c = o ∧ o < l.length ∧ c ∈ l ∧ beforeC c l = l.take o ∧ afterC c l = l.drop (o + 1) := by
  induction l with
  | nil => exact .inl ⟨rfl, by simp, rfl, rfl⟩
  | cons a r ih =>
    by_cases h : a = c
    · subst h
      have := cut_at a (a :: r) 0 (by simp) rfl (fun j hj => absurd hj (by omega))
      exact .inr ⟨0, by simp [Lib.indexByte], by simp, this.1, this.2.1, this.2.2⟩
    · have h1 : (a == c) = false := by simp [h]
      have h2 : (a != c) = true := by simp [h]
      have eb : beforeC c (a :: r) = a :: beforeC c r := by simp [beforeC, List.takeWhile_cons, h2]
      have ea : afterC c (a :: r) = afterC c r := by simp [afterC, List.dropWhile_cons, h2]
      rcases ih with ⟨i1, i2, i3, i4⟩ | ⟨o, i1, i2, i3, i4, i5⟩
      · refine .inl ⟨by simp [Lib.indexByte, h1, i1], ?_, by rw [eb, i3], by rw [ea, i4]⟩
        intro hm
        rcases List.mem_cons.1 hm with e | e
        · exact h e.symm
        · exact i2 e
      · have hne : ((o : Int) == -1) = false := by rw [beq_eq_false_iff_ne]; omega
        refine .inr ⟨o + 1, by simp [Lib.indexByte, h1, i1, hne], by simp; omega, List.mem_cons_of_mem _ i3, by rw [eb, i4]; rfl, by rw [ea, i5]; rfl⟩
def cutV (c : UInt8) (l : List UInt8) : Value := .tuple #[.string (str (beforeC c l)), .string (str (afterC c l)), .bool (hasC c l)]
theorem ret_cut {a b x y : ByteArray} {d e : Bool} (h : a = b) (h' : x = y) (h'' : d = e) : Ending.returned (.tuple #[.string a, .string x, .bool d]) = .returned (.tuple #[.string b, .string y, .bool e]) := by rw [h, h', h'']
set_option maxHeartbeats 1000000 in
theorem cut_any (s : ByteArray) (c : UInt8) (w : World) (hs : s.size ≤ 70368744177664) :
    Calls Tryz.prog 143 #[.string s, .string ⟨#[c]⟩] w fun e w' => e = .returned (cutV c s.data.toList) ∧ Below w.heap.size w w' := by
  have hz : (⟨#[c]⟩ : ByteArray).size = 1 := rfl
  rcases index_cut c s.data.toList with ⟨i1, i2, i3, i4⟩ | ⟨o, i1, i2, i3, i4, i5⟩
  · have I1 := hide i1
    have I2 := hide i2
    have I3 := hide i3
    have I4 := hide i4
    clear i1 i2 i3 i4
    go_enter Tryz.func143, Tryz.ntmps143
    go_wp2_with fail
    refine (Tryz.stringslite_Index_one s c _).mono ?_
    rintro e w1 ⟨rfl, hw⟩
    subst hw
    rw [I1.out]
    go_wp2_with fail
    go_ret3
    exact ⟨ret_cut (by rw [I3.out, str_of]) (by rw [I4.out]; rfl) (by rw [hasC_false I2.out]), Below.refl _ _⟩
  · have I1 := hide i1
    have I3 := hide i3
    have I4 := hide i4
    have I5 := hide i5
    rw [toList_length] at i2
    have o1 : (o : Int) + 1 ≤ s.size := by omega
    have o0 : (0 : Int) ≤ o := by omega
    have o2 : (o : Int) ≤ s.size := by omega
    have o3 : (0 : Int) ≤ (o : Int) + 1 := by omega
    have o4 : ((o : Int) + 1).toNat = o + 1 := by omega
    clear i1 i3 i4 i5
    go_enter Tryz.func143, Tryz.ntmps143
    go_wp2_with fail
    refine (Tryz.stringslite_Index_one s c _).mono ?_
    rintro e w1 ⟨rfl, hw⟩
    subst hw
    rw [I1.out]
    go_wp2_with fail
    go_region
    all_goals (try go_wp2)
    all_goals
      go_ret3
      exact ⟨ret_cut (ext_list (by rw [extract_list, List.drop_zero, str_toList, I4.out])) (ext_list (by rw [extract_end, str_toList, I5.out])) (by rw [hasC_true I3.out]), (Below.refl _ _).drew⟩
set_option maxHeartbeats 1000000 in
theorem strCut_any (s : ByteArray) (c : UInt8) (w : World) (hs : s.size ≤ 70368744177664) :
    Calls Tryz.prog 113 #[.string s, .string ⟨#[c]⟩] w fun e w' => e = .returned (cutV c s.data.toList) ∧ Below w.heap.size w w' := by
  go_enter Tryz.func113, Tryz.ntmps113
  go_wp2_with fail
  refine (cut_any s c _ hs).mono ?_
  rintro e w1 ⟨rfl, hb⟩
  unfold cutV
  go_wp2_with fail
  go_ret3
  exact ⟨rfl, hb⟩
end Go.Proofs.YtiejmkjpgjbodaaGreatDoor

namespace Go.Proofs.YtiejmkjpgjbodaaGreatDoor
open Go.RowKit
set_option linter.unusedVariables false
set_option linter.unusedSimpArgs false
set_option maxRecDepth 100000
def byN (l : List UInt8) : Option Int := if Lib.hasPrefix l [120] || Lib.hasPrefix l [88] then numAt 16 6 (l.drop 1) else numAt 10 7 l
def sgn (l : List UInt8) : Option Int := if Lib.hasPrefix l [35] = true then byN (Lib.trimPrefix l [35]) else nameN l
def refN (l : List UInt8) : Int × Nat :=
  match sgn (beforeC 59 (l.take 9)), hasC 59 (l.take 9) with
  | some x, true => (x, (beforeC 59 (l.take 9)).length + 1)
  | _, _ => (0, 0)
theorem byNumber_any (D : ByteArray) (ev : Value) (w : World) (hs : D.size ≤ 8) (hT : Tab w) (hU : Lib.Utf8Tabs 4 5 w)
    (hv : w.cell? ⟨1, 0, none⟩ = some ev) (hev : ev = .nilIface ∨ ∃ te pe, ev = .iface te pe) :
    Calls Tryz.prog 146 #[.string D] w fun e w' => e = .returned (entV (byN D.data.toList)) ∧ Below w.heap.size w w' := by
  cases p1 : Lib.hasPrefix D.data.toList [120] with
  | true =>
    have e : byN D.data.toList = numAt 16 6 (D.extract 1 D.size).data.toList := by unfold byN; rw [p1, extract_end]; rfl
    rw [e]; exact byNumber_x D ev w hs p1 hT hU hv hev
  | false =>
    cases p2 : Lib.hasPrefix D.data.toList [88] with
    | true =>
      have e : byN D.data.toList = numAt 16 6 (D.extract 1 D.size).data.toList := by unfold byN; rw [p1, p2, extract_end]; rfl
      rw [e]; exact byNumber_X D ev w hs p1 p2 hT hU hv hev
    | false =>
      have e : byN D.data.toList = numAt 10 7 D.data.toList := by unfold byN; rw [p1, p2]; rfl
      rw [e]; exact byNumber_d D ev w hs p1 p2 hT hU hv hev
theorem dig_size {C D : ByteArray} (hp : Lib.hasPrefix C.data.toList [35] = true) (hD : D.data.toList = Lib.trimPrefix C.data.toList [35]) (h : C.size ≤ 9) : D.size ≤ 8 := by
  have := congrArg List.length hD
  rw [toList_length] at this
  rw [this]
  unfold Lib.trimPrefix
  rw [hp]
  have := pref_size hp
  simp only [if_true, List.length_drop, toList_length]
  have e1 : ([35] : List UInt8).length = 1 := rfl
  omega
def refV (o : Int × Nat) : Value := .tuple #[.int .i32 o.1, .int .i64 o.2]
set_option maxHeartbeats 4000000 in
theorem reference_any (R : ByteArray) (b : Nat) (ev : Value) (w : World) (hs : R.size ≤ 16777216) (hM : SMapN w b 16 nameN) (hT : Tab w) (hU : Lib.Utf8Tabs 4 5 w)
    (hv : w.cell? ⟨1, 0, none⟩ = some ev) (hev : ev = .nilIface ∨ ∃ te pe, ev = .iface te pe) :
    Calls Tryz.prog 118 #[.string R, .map (some b)] w fun e w' => e = .returned (refV (refN R.data.toList)) ∧ Below w.heap.size w w' := by
  have zC : (beforeC 59 (R.data.toList.take 9)).length ≤ 9 := Nat.le_trans ((List.takeWhile_sublist _).length_le) (List.length_take_le _ _)
  obtain ⟨C, hC⟩ : ∃ C, C = str (beforeC 59 (R.data.toList.take 9)) := ⟨_, rfl⟩
  have hCt : C.data.toList = beforeC 59 (R.data.toList.take 9) := by rw [hC, str_toList]
  have HCS : Hid (C.size ≤ maxLen) := hide (by rw [hC, str_size]; exact Nat.le_trans zC (by decide))
  have hCs : C.size ≤ 9 := by rw [hC, str_size]; exact zC
  have HM := hide hM
  obtain ⟨D, hD⟩ : ∃ D, D = (⟨(Lib.trimPrefix C.data.toList [35]).toArray⟩ : ByteArray) := ⟨_, rfl⟩
  have hDt : D.data.toList = Lib.trimPrefix C.data.toList [35] := by rw [hD]
  have hpre := fun w1 => Tryz.strings_CutPrefix C ⟨#[35]⟩ w1
  rw [show (⟨#[35]⟩ : ByteArray).data.toList = [35] from rfl, ← hD] at hpre
  by_cases hz : R.size < 9
  · have m1 : decide ((R.size : Int) < 9) = true := decide_eq_true (by omega)
    have mn : min (R.size : Int) 9 = R.size := by omega
    obtain ⟨N, hN⟩ : ∃ N, N = R := ⟨_, rfl⟩
    have hNt : N.data.toList = R.data.toList.take 9 := by rw [hN, List.take_of_length_le (by rw [toList_length]; omega)]
    have hcut := fun w1 => strCut_any N 59 w1 (by rw [← toList_length, hNt]; exact Nat.le_trans (List.length_take_le _ _) (by decide))
    simp only [cutV] at hcut
    rw [hNt, ← hC, hN] at hcut
    cases hp : Lib.hasPrefix C.data.toList [35]
    · have HP : Hid (Lib.hasPrefix C.data.toList [35] = false) := hide hp
      rw [hp] at hpre
      have HPRE := hide hpre
      have hsg : sgn C.data.toList = nameN C.data.toList := by unfold sgn; rw [hp, if_neg (by decide)]
      cases hsn : nameN C.data.toList with
      | none =>
        rw [hsn] at hsg
        have HNM := hide hsn
        cases hend : hasC 59 (R.data.toList.take 9) with
        | false =>
          have HR : Hid (refN R.data.toList = (0, 0)) := hide (by unfold refN; rw [← hCt, hsg, hend])
          rw [hend] at hcut
          have HCUT := hide hcut
          clear hcut hsg hsn hend hp hpre hT hU hv hev hM hC hCt hDt hD hN hNt zC
          go_enter Tryz.func118, Tryz.ntmps118
          go_wp2_with (first | (go_at_call 113; with_reducible refine (HCUT.out _).mono ?_; rintro e w1 ⟨rfl, hb1⟩; have HB1 := hide hb1; clear hb1) | (go_at_call 122; with_reducible refine (HPRE.out _).mono ?_; rintro e wp ⟨rfl, hwp⟩; obtain rfl := hwp) | (at_lookup; refine wpList_sm_look rfl _ _ rfl b 16 nameN rfl (HM.out.kept HB1.out) C HCS.out rfl ?_; rw [HNM.out]))
          go_ret2
          exact ⟨by rw [HR.out]; rfl, HB1.out⟩
        | true =>
          have HR : Hid (refN R.data.toList = (0, 0)) := hide (by unfold refN; rw [← hCt, hsg, hend])
          rw [hend] at hcut
          have HCUT := hide hcut
          clear hcut hsg hsn hend hp hpre hT hU hv hev hM hC hCt hDt hD hN hNt zC
          go_enter Tryz.func118, Tryz.ntmps118
          go_wp2_with (first | (go_at_call 113; with_reducible refine (HCUT.out _).mono ?_; rintro e w1 ⟨rfl, hb1⟩; have HB1 := hide hb1; clear hb1) | (go_at_call 122; with_reducible refine (HPRE.out _).mono ?_; rintro e wp ⟨rfl, hwp⟩; obtain rfl := hwp) | (at_lookup; refine wpList_sm_look rfl _ _ rfl b 16 nameN rfl (HM.out.kept HB1.out) C HCS.out rfl ?_; rw [HNM.out]))
          go_ret2
          exact ⟨by rw [HR.out]; rfl, HB1.out⟩
      | some x =>
        rw [hsn] at hsg
        have HNM := hide hsn
        cases hend : hasC 59 (R.data.toList.take 9) with
        | false =>
          have HR : Hid (refN R.data.toList = (0, 0)) := hide (by unfold refN; rw [← hCt, hsg, hend])
          rw [hend] at hcut
          have HCUT := hide hcut
          clear hcut hsg hsn hend hp hpre hT hU hv hev hM hC hCt hDt hD hN hNt zC
          go_enter Tryz.func118, Tryz.ntmps118
          go_wp2_with (first | (go_at_call 113; with_reducible refine (HCUT.out _).mono ?_; rintro e w1 ⟨rfl, hb1⟩; have HB1 := hide hb1; clear hb1) | (go_at_call 122; with_reducible refine (HPRE.out _).mono ?_; rintro e wp ⟨rfl, hwp⟩; obtain rfl := hwp) | (at_lookup; refine wpList_sm_look rfl _ _ rfl b 16 nameN rfl (HM.out.kept HB1.out) C HCS.out rfl ?_; rw [HNM.out]))
          go_ret2
          exact ⟨by rw [HR.out]; rfl, HB1.out⟩
        | true =>
          have HR : Hid (refN R.data.toList = (x, C.size + 1)) := hide (by unfold refN; rw [← hCt, hsg, hend]; simp only [toList_length])
          rw [hend] at hcut
          have HCUT := hide hcut
          clear hcut hsg hsn hend hp hpre hT hU hv hev hM hC hCt hDt hD hN hNt zC
          go_enter Tryz.func118, Tryz.ntmps118
          go_wp2_with (first | (go_at_call 113; with_reducible refine (HCUT.out _).mono ?_; rintro e w1 ⟨rfl, hb1⟩; have HB1 := hide hb1; clear hb1) | (go_at_call 122; with_reducible refine (HPRE.out _).mono ?_; rintro e wp ⟨rfl, hwp⟩; obtain rfl := hwp) | (at_lookup; refine wpList_sm_look rfl _ _ rfl b 16 nameN rfl (HM.out.kept HB1.out) C HCS.out rfl ?_; rw [HNM.out]))
          go_ret2
          exact ⟨by rw [HR.out]; rfl, HB1.out⟩
    · have HP : Hid (Lib.hasPrefix C.data.toList [35] = true) := hide hp
      rw [hp] at hpre
      have HPRE := hide hpre
      obtain ⟨nm, hnm⟩ : ∃ nm, nameN C.data.toList = nm := ⟨_, rfl⟩
      have HNM := hide hnm
      have hsg : sgn C.data.toList = byN D.data.toList := by unfold sgn; rw [hp, if_pos rfl, hDt]
      have hds : D.size ≤ 8 := dig_size hp hDt (by rw [← hCt] at zC; rw [toList_length] at zC; exact zC)
      have hnum := fun w1 (hb : Below w.heap.size w w1) => byNumber_any D ev w1 hds (hT.below hb hT.lt) (tabs_kept hU hb) ((hb.cell (p := ⟨1, 0, none⟩) (World.block_lt_of_cell? _ _ hv)).trans hv) hev
      cases hsn : byN D.data.toList with
      | none =>
        rw [hsn] at hsg
        rw [hsn] at hnum
        simp only [entV] at hnum
        have HNUM := hide hnum
        cases hend : hasC 59 (R.data.toList.take 9) with
        | false =>
          have HR : Hid (refN R.data.toList = (0, 0)) := hide (by unfold refN; rw [← hCt, hsg, hend])
          rw [hend] at hcut
          have HCUT := hide hcut
          clear hcut hsg hsn hend hp hpre hT hU hv hev hM hC hCt hDt hD hN hNt zC hnm hnum hds
          go_enter Tryz.func118, Tryz.ntmps118
          go_wp2_with (first | (go_at_call 113; with_reducible refine (HCUT.out _).mono ?_; rintro e w1 ⟨rfl, hb1⟩; have HB1 := hide hb1; clear hb1) | (go_at_call 122; with_reducible refine (HPRE.out _).mono ?_; rintro e wp ⟨rfl, hwp⟩; obtain rfl := hwp) | (at_lookup; refine wpList_sm_look rfl _ _ rfl b 16 nameN rfl (HM.out.kept HB1.out) C HCS.out rfl ?_; rw [HNM.out]) | (go_at_call 146; with_reducible refine (HNUM.out _ HB1.out).mono ?_; rintro e w2 ⟨rfl, hb2⟩; have HB2 := hide (HB1.out.trans (hb2.mono HB1.out.size)); clear hb2))
          go_ret2
          exact ⟨by rw [HR.out]; rfl, HB2.out⟩
        | true =>
          have HR : Hid (refN R.data.toList = (0, 0)) := hide (by unfold refN; rw [← hCt, hsg, hend])
          rw [hend] at hcut
          have HCUT := hide hcut
          clear hcut hsg hsn hend hp hpre hT hU hv hev hM hC hCt hDt hD hN hNt zC hnm hnum hds
          go_enter Tryz.func118, Tryz.ntmps118
          go_wp2_with (first | (go_at_call 113; with_reducible refine (HCUT.out _).mono ?_; rintro e w1 ⟨rfl, hb1⟩; have HB1 := hide hb1; clear hb1) | (go_at_call 122; with_reducible refine (HPRE.out _).mono ?_; rintro e wp ⟨rfl, hwp⟩; obtain rfl := hwp) | (at_lookup; refine wpList_sm_look rfl _ _ rfl b 16 nameN rfl (HM.out.kept HB1.out) C HCS.out rfl ?_; rw [HNM.out]) | (go_at_call 146; with_reducible refine (HNUM.out _ HB1.out).mono ?_; rintro e w2 ⟨rfl, hb2⟩; have HB2 := hide (HB1.out.trans (hb2.mono HB1.out.size)); clear hb2))
          go_ret2
          exact ⟨by rw [HR.out]; rfl, HB2.out⟩
      | some x =>
        rw [hsn] at hsg
        rw [hsn] at hnum
        simp only [entV] at hnum
        have HNUM := hide hnum
        cases hend : hasC 59 (R.data.toList.take 9) with
        | false =>
          have HR : Hid (refN R.data.toList = (0, 0)) := hide (by unfold refN; rw [← hCt, hsg, hend])
          rw [hend] at hcut
          have HCUT := hide hcut
          clear hcut hsg hsn hend hp hpre hT hU hv hev hM hC hCt hDt hD hN hNt zC hnm hnum hds
          go_enter Tryz.func118, Tryz.ntmps118
          go_wp2_with (first | (go_at_call 113; with_reducible refine (HCUT.out _).mono ?_; rintro e w1 ⟨rfl, hb1⟩; have HB1 := hide hb1; clear hb1) | (go_at_call 122; with_reducible refine (HPRE.out _).mono ?_; rintro e wp ⟨rfl, hwp⟩; obtain rfl := hwp) | (at_lookup; refine wpList_sm_look rfl _ _ rfl b 16 nameN rfl (HM.out.kept HB1.out) C HCS.out rfl ?_; rw [HNM.out]) | (go_at_call 146; with_reducible refine (HNUM.out _ HB1.out).mono ?_; rintro e w2 ⟨rfl, hb2⟩; have HB2 := hide (HB1.out.trans (hb2.mono HB1.out.size)); clear hb2))
          go_ret2
          exact ⟨by rw [HR.out]; rfl, HB2.out⟩
        | true =>
          have HR : Hid (refN R.data.toList = (x, C.size + 1)) := hide (by unfold refN; rw [← hCt, hsg, hend]; simp only [toList_length])
          rw [hend] at hcut
          have HCUT := hide hcut
          clear hcut hsg hsn hend hp hpre hT hU hv hev hM hC hCt hDt hD hN hNt zC hnm hnum hds
          go_enter Tryz.func118, Tryz.ntmps118
          go_wp2_with (first | (go_at_call 113; with_reducible refine (HCUT.out _).mono ?_; rintro e w1 ⟨rfl, hb1⟩; have HB1 := hide hb1; clear hb1) | (go_at_call 122; with_reducible refine (HPRE.out _).mono ?_; rintro e wp ⟨rfl, hwp⟩; obtain rfl := hwp) | (at_lookup; refine wpList_sm_look rfl _ _ rfl b 16 nameN rfl (HM.out.kept HB1.out) C HCS.out rfl ?_; rw [HNM.out]) | (go_at_call 146; with_reducible refine (HNUM.out _ HB1.out).mono ?_; rintro e w2 ⟨rfl, hb2⟩; have HB2 := hide (HB1.out.trans (hb2.mono HB1.out.size)); clear hb2))
          go_ret2
          exact ⟨by rw [HR.out]; rfl, HB2.out⟩
  · have m1 : decide ((R.size : Int) < 9) = false := decide_eq_false (by omega)
    have mn : min (R.size : Int) 9 = 9 := by omega
    have m4 : (9 : Int) ≤ R.size := by omega
    obtain ⟨N, hN⟩ : ∃ N, N = R.extract 0 9 := ⟨_, rfl⟩
    have hNt : N.data.toList = R.data.toList.take 9 := by rw [hN, extract_list, List.drop_zero]
    have hcut := fun w1 => strCut_any N 59 w1 (by rw [← toList_length, hNt]; exact Nat.le_trans (List.length_take_le _ _) (by decide))
    simp only [cutV] at hcut
    rw [hNt, ← hC, hN] at hcut
    cases hp : Lib.hasPrefix C.data.toList [35]
    · have HP : Hid (Lib.hasPrefix C.data.toList [35] = false) := hide hp
      rw [hp] at hpre
      have HPRE := hide hpre
      have hsg : sgn C.data.toList = nameN C.data.toList := by unfold sgn; rw [hp, if_neg (by decide)]
      cases hsn : nameN C.data.toList with
      | none =>
        rw [hsn] at hsg
        have HNM := hide hsn
        cases hend : hasC 59 (R.data.toList.take 9) with
        | false =>
          have HR : Hid (refN R.data.toList = (0, 0)) := hide (by unfold refN; rw [← hCt, hsg, hend])
          rw [hend] at hcut
          have HCUT := hide hcut
          clear hcut hsg hsn hend hp hpre hT hU hv hev hM hC hCt hDt hD hN hNt zC
          go_enter Tryz.func118, Tryz.ntmps118
          go_wp2_with (first | (go_at_call 113; with_reducible refine (HCUT.out _).mono ?_; rintro e w1 ⟨rfl, hb1⟩; have HB1 := hide hb1; clear hb1) | (go_at_call 122; with_reducible refine (HPRE.out _).mono ?_; rintro e wp ⟨rfl, hwp⟩; obtain rfl := hwp) | (at_lookup; refine wpList_sm_look rfl _ _ rfl b 16 nameN rfl (HM.out.kept HB1.out) C HCS.out rfl ?_; rw [HNM.out]))
          go_ret2
          exact ⟨by rw [HR.out]; rfl, HB1.out⟩
        | true =>
          have HR : Hid (refN R.data.toList = (0, 0)) := hide (by unfold refN; rw [← hCt, hsg, hend])
          rw [hend] at hcut
          have HCUT := hide hcut
          clear hcut hsg hsn hend hp hpre hT hU hv hev hM hC hCt hDt hD hN hNt zC
          go_enter Tryz.func118, Tryz.ntmps118
          go_wp2_with (first | (go_at_call 113; with_reducible refine (HCUT.out _).mono ?_; rintro e w1 ⟨rfl, hb1⟩; have HB1 := hide hb1; clear hb1) | (go_at_call 122; with_reducible refine (HPRE.out _).mono ?_; rintro e wp ⟨rfl, hwp⟩; obtain rfl := hwp) | (at_lookup; refine wpList_sm_look rfl _ _ rfl b 16 nameN rfl (HM.out.kept HB1.out) C HCS.out rfl ?_; rw [HNM.out]))
          go_ret2
          exact ⟨by rw [HR.out]; rfl, HB1.out⟩
      | some x =>
        rw [hsn] at hsg
        have HNM := hide hsn
        cases hend : hasC 59 (R.data.toList.take 9) with
        | false =>
          have HR : Hid (refN R.data.toList = (0, 0)) := hide (by unfold refN; rw [← hCt, hsg, hend])
          rw [hend] at hcut
          have HCUT := hide hcut
          clear hcut hsg hsn hend hp hpre hT hU hv hev hM hC hCt hDt hD hN hNt zC
          go_enter Tryz.func118, Tryz.ntmps118
          go_wp2_with (first | (go_at_call 113; with_reducible refine (HCUT.out _).mono ?_; rintro e w1 ⟨rfl, hb1⟩; have HB1 := hide hb1; clear hb1) | (go_at_call 122; with_reducible refine (HPRE.out _).mono ?_; rintro e wp ⟨rfl, hwp⟩; obtain rfl := hwp) | (at_lookup; refine wpList_sm_look rfl _ _ rfl b 16 nameN rfl (HM.out.kept HB1.out) C HCS.out rfl ?_; rw [HNM.out]))
          go_ret2
          exact ⟨by rw [HR.out]; rfl, HB1.out⟩
        | true =>
          have HR : Hid (refN R.data.toList = (x, C.size + 1)) := hide (by unfold refN; rw [← hCt, hsg, hend]; simp only [toList_length])
          rw [hend] at hcut
          have HCUT := hide hcut
          clear hcut hsg hsn hend hp hpre hT hU hv hev hM hC hCt hDt hD hN hNt zC
          go_enter Tryz.func118, Tryz.ntmps118
          go_wp2_with (first | (go_at_call 113; with_reducible refine (HCUT.out _).mono ?_; rintro e w1 ⟨rfl, hb1⟩; have HB1 := hide hb1; clear hb1) | (go_at_call 122; with_reducible refine (HPRE.out _).mono ?_; rintro e wp ⟨rfl, hwp⟩; obtain rfl := hwp) | (at_lookup; refine wpList_sm_look rfl _ _ rfl b 16 nameN rfl (HM.out.kept HB1.out) C HCS.out rfl ?_; rw [HNM.out]))
          go_ret2
          exact ⟨by rw [HR.out]; rfl, HB1.out⟩
    · have HP : Hid (Lib.hasPrefix C.data.toList [35] = true) := hide hp
      rw [hp] at hpre
      have HPRE := hide hpre
      obtain ⟨nm, hnm⟩ : ∃ nm, nameN C.data.toList = nm := ⟨_, rfl⟩
      have HNM := hide hnm
      have hsg : sgn C.data.toList = byN D.data.toList := by unfold sgn; rw [hp, if_pos rfl, hDt]
      have hds : D.size ≤ 8 := dig_size hp hDt (by rw [← hCt] at zC; rw [toList_length] at zC; exact zC)
      have hnum := fun w1 (hb : Below w.heap.size w w1) => byNumber_any D ev w1 hds (hT.below hb hT.lt) (tabs_kept hU hb) ((hb.cell (p := ⟨1, 0, none⟩) (World.block_lt_of_cell? _ _ hv)).trans hv) hev
      cases hsn : byN D.data.toList with
      | none =>
        rw [hsn] at hsg
        rw [hsn] at hnum
        simp only [entV] at hnum
        have HNUM := hide hnum
        cases hend : hasC 59 (R.data.toList.take 9) with
        | false =>
          have HR : Hid (refN R.data.toList = (0, 0)) := hide (by unfold refN; rw [← hCt, hsg, hend])
          rw [hend] at hcut
          have HCUT := hide hcut
          clear hcut hsg hsn hend hp hpre hT hU hv hev hM hC hCt hDt hD hN hNt zC hnm hnum hds
          go_enter Tryz.func118, Tryz.ntmps118
          go_wp2_with (first | (go_at_call 113; with_reducible refine (HCUT.out _).mono ?_; rintro e w1 ⟨rfl, hb1⟩; have HB1 := hide hb1; clear hb1) | (go_at_call 122; with_reducible refine (HPRE.out _).mono ?_; rintro e wp ⟨rfl, hwp⟩; obtain rfl := hwp) | (at_lookup; refine wpList_sm_look rfl _ _ rfl b 16 nameN rfl (HM.out.kept HB1.out) C HCS.out rfl ?_; rw [HNM.out]) | (go_at_call 146; with_reducible refine (HNUM.out _ HB1.out).mono ?_; rintro e w2 ⟨rfl, hb2⟩; have HB2 := hide (HB1.out.trans (hb2.mono HB1.out.size)); clear hb2))
          go_ret2
          exact ⟨by rw [HR.out]; rfl, HB2.out⟩
        | true =>
          have HR : Hid (refN R.data.toList = (0, 0)) := hide (by unfold refN; rw [← hCt, hsg, hend])
          rw [hend] at hcut
          have HCUT := hide hcut
          clear hcut hsg hsn hend hp hpre hT hU hv hev hM hC hCt hDt hD hN hNt zC hnm hnum hds
          go_enter Tryz.func118, Tryz.ntmps118
          go_wp2_with (first | (go_at_call 113; with_reducible refine (HCUT.out _).mono ?_; rintro e w1 ⟨rfl, hb1⟩; have HB1 := hide hb1; clear hb1) | (go_at_call 122; with_reducible refine (HPRE.out _).mono ?_; rintro e wp ⟨rfl, hwp⟩; obtain rfl := hwp) | (at_lookup; refine wpList_sm_look rfl _ _ rfl b 16 nameN rfl (HM.out.kept HB1.out) C HCS.out rfl ?_; rw [HNM.out]) | (go_at_call 146; with_reducible refine (HNUM.out _ HB1.out).mono ?_; rintro e w2 ⟨rfl, hb2⟩; have HB2 := hide (HB1.out.trans (hb2.mono HB1.out.size)); clear hb2))
          go_ret2
          exact ⟨by rw [HR.out]; rfl, HB2.out⟩
      | some x =>
        rw [hsn] at hsg
        rw [hsn] at hnum
        simp only [entV] at hnum
        have HNUM := hide hnum
        cases hend : hasC 59 (R.data.toList.take 9) with
        | false =>
          have HR : Hid (refN R.data.toList = (0, 0)) := hide (by unfold refN; rw [← hCt, hsg, hend])
          rw [hend] at hcut
          have HCUT := hide hcut
          clear hcut hsg hsn hend hp hpre hT hU hv hev hM hC hCt hDt hD hN hNt zC hnm hnum hds
          go_enter Tryz.func118, Tryz.ntmps118
          go_wp2_with (first | (go_at_call 113; with_reducible refine (HCUT.out _).mono ?_; rintro e w1 ⟨rfl, hb1⟩; have HB1 := hide hb1; clear hb1) | (go_at_call 122; with_reducible refine (HPRE.out _).mono ?_; rintro e wp ⟨rfl, hwp⟩; obtain rfl := hwp) | (at_lookup; refine wpList_sm_look rfl _ _ rfl b 16 nameN rfl (HM.out.kept HB1.out) C HCS.out rfl ?_; rw [HNM.out]) | (go_at_call 146; with_reducible refine (HNUM.out _ HB1.out).mono ?_; rintro e w2 ⟨rfl, hb2⟩; have HB2 := hide (HB1.out.trans (hb2.mono HB1.out.size)); clear hb2))
          go_ret2
          exact ⟨by rw [HR.out]; rfl, HB2.out⟩
        | true =>
          have HR : Hid (refN R.data.toList = (x, C.size + 1)) := hide (by unfold refN; rw [← hCt, hsg, hend]; simp only [toList_length])
          rw [hend] at hcut
          have HCUT := hide hcut
          clear hcut hsg hsn hend hp hpre hT hU hv hev hM hC hCt hDt hD hN hNt zC hnm hnum hds
          go_enter Tryz.func118, Tryz.ntmps118
          go_wp2_with (first | (go_at_call 113; with_reducible refine (HCUT.out _).mono ?_; rintro e w1 ⟨rfl, hb1⟩; have HB1 := hide hb1; clear hb1) | (go_at_call 122; with_reducible refine (HPRE.out _).mono ?_; rintro e wp ⟨rfl, hwp⟩; obtain rfl := hwp) | (at_lookup; refine wpList_sm_look rfl _ _ rfl b 16 nameN rfl (HM.out.kept HB1.out) C HCS.out rfl ?_; rw [HNM.out]) | (go_at_call 146; with_reducible refine (HNUM.out _ HB1.out).mono ?_; rintro e w2 ⟨rfl, hb2⟩; have HB2 := hide (HB1.out.trans (hb2.mono HB1.out.size)); clear hb2))
          go_ret2
          exact ⟨by rw [HR.out]; rfl, HB2.out⟩
end Go.Proofs.YtiejmkjpgjbodaaGreatDoor

namespace Go.Proofs.YtiejmkjpgjbodaaGreatDoor
open Go.RowKit
set_option linter.unusedVariables false
set_option linter.unusedSimpArgs false
def szOfS : Value → Nat
  | .string t => t.size
  | _ => 0
end Go.Proofs.YtiejmkjpgjbodaaGreatDoor

namespace Go.Proofs.YtiejmkjpgjbodaaGreatDoor
open Go.RowKit
set_option linter.unusedVariables false
set_option linter.unusedSimpArgs false
theorem bldSize : (Tryz.prog.info? 78).map (·.size) = some 2 := by kernel_rfl
theorem bldLies : liesAt Tryz.prog Tryz.prog.depth 78 (2 / Tryz.prog.cellsOf 78) 0 78 1 = true := by kernel_rfl
def Bld (B b : Nat) (l : List UInt8) (W0 w : World) : Prop := Lib.IsBuilder 78 5 B b (cellsOf l) w ∧ Below B W0 w ∧ B ≤ w.heap.size
set_option maxRecDepth 100000 in
set_option maxHeartbeats 1000000 in
theorem copyCheck_used (b : Nat) (w : World) (h0 : w.cell? ⟨b, 0, none⟩ = some (.pointer (some ⟨b, 0, none⟩))) :
    Calls Tryz.prog 103 #[.pointer (some ⟨b, 0, none⟩)] w fun e w' => e = .returned (.tuple #[]) ∧ w = w' := by
  obtain ⟨j, hj, _⟩ := Option.map_eq_some_iff.1 bldSize
  have hne := fun w : World => Lib.run_neq_ptr_same (P := Tryz.prog) w ⟨b, 0, none⟩ Tryz.underlying76 hj
  go_enter Tryz.func103, Tryz.ntmps103
  go_wp2
  go_end0
  exact ⟨rfl, rfl⟩
set_option maxRecDepth 100000 in
set_option maxHeartbeats 1000000 in
theorem copyCheck_fresh (b : Nat) (w : World) (h0 : w.cell? ⟨b, 0, none⟩ = some (.pointer none)) (hsh : w.shape? b = some (78, 2)) (hfz : w.frozen? ⟨b, 0, none⟩ = false) :
    Calls Tryz.prog 103 #[.pointer (some ⟨b, 0, none⟩)] w fun e w' => e = .returned (.tuple #[]) ∧ w.setCell ⟨b, 0, none⟩ (.pointer (some ⟨b, 0, none⟩)) = w' := by
  obtain ⟨j, hj, hjs⟩ := Option.map_eq_some_iff.1 bldSize
  have c1 := Lib.run_to_unsafe (P := Tryz.prog) w ⟨b, 0, none⟩ Tryz.underlying76 Tryz.underlying153 hj (by rw [hjs]; decide) hsh (Nat.zero_lt_succ 1)
  have c2 := Lib.run_from_unsafe (P := Tryz.prog) w ⟨b, 0, none⟩ Tryz.underlying153 Tryz.underlying76 hj hsh bldLies
  have ce := fun w : World => run_callFunc_extern (P := Tryz.prog) (w := w) (args := #[Value.pointer (some ⟨b, 0, none⟩)]) Tryz.func140 (by kernel_rfl) (by kernel_rfl) (by kernel_rfl) (e := Extern.AbiNoEscape.same) (by kernel_rfl)
  have cn := fun w : World => Lib.run_noEscape (P := Tryz.prog) (w := w) (Value.pointer (some ⟨b, 0, none⟩))
  go_enter Tryz.func103, Tryz.ntmps103
  go_wp2
  go_end0
  exact ⟨rfl, rfl⟩
theorem Bld.string {B b : Nat} {l : List UInt8} {W0 w : World} (h : Bld B b l W0 w) :
    Calls Tryz.prog 57 #[.pointer (some ⟨b, 0, none⟩)] w fun e w' => e = .returned (.string (str l)) ∧ Below B W0 w' :=
  (Tryz.Builder_String_any B b l w h.1 h.2.2).mono fun _ _ ⟨he, hb⟩ => ⟨he, h.2.1.trans hb⟩
theorem Bld.kept {B b : Nat} {l : List UInt8} {W0 w w' : World} (h : Bld B b l W0 w) (hb : Below w.heap.size w w') : Bld B b l W0 w' := by
  obtain ⟨h1, h2, h3⟩ := h
  refine ⟨?_, h2.trans (hb.mono h3), Nat.le_trans h3 hb.size⟩
  have key : ∀ p, Lib.BuilderAt 78 5 B b p (cellsOf l) w → Lib.BuilderAt 78 5 B b p (cellsOf l) w' := by
    intro p h
    have hlt := h.lt
    obtain ⟨hB, v, hbk, hown, hne⟩ := h
    exact ⟨hB, v, (hb.block b hlt).trans hbk, hown.kept (row := none) ⟨hb.os, hb.tape, hb.output, hb.size, fun k hk _ => hb.block k hk⟩ (by cases hv : v.ownBlock <;> simp), hne⟩
  rcases h1 with h | h
  · exact .inl (key _ h)
  · exact .inr (key _ h)
theorem Bld.new {B : Nat} {W0 w : World} (hb : Below B W0 w) (hB : B ≤ w.heap.size) : Bld B w.heap.size [] W0 (w.alloc (.cells #[.pointer none, .slice none 0 0] 78)) :=
  ⟨.inl ⟨hB, .slice none 0 0, heap_alloc_new w _, World.ownsRow_nil _ B _ 1, by simp [Value.ownBlock]⟩, hb.alloc hB _, by simp; omega⟩
end Go.Proofs.YtiejmkjpgjbodaaGreatDoor

namespace Go.Proofs.YtiejmkjpgjbodaaGreatDoor
open Go.RowKit
set_option linter.unusedVariables false
set_option linter.unusedSimpArgs false
set_option maxRecDepth 100000
end Go.Proofs.YtiejmkjpgjbodaaGreatDoor

