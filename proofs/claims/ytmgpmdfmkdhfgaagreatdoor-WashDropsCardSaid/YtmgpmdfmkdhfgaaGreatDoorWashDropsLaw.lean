import Derived.Test.YtmgpmdfmkdhfgaaGreatDoorRef19L
import Derived.Test.YtmgpmdfmkdhfgaaGreatDoorWashX
import Derived.Deep.RegionHeldLaw
namespace Go.Proofs.YtmgpmdfmkdhfgaaGreatDoor
open Go.RowKit
set_option linter.unusedVariables false
set_option linter.unusedSimpArgs false
set_option maxRecDepth 100000
theorem drops_nil (r s:Bool) (F:List FileL) (x:List UInt8) (T:Tr) (hx:x ≠ []) (h:elemN x = 0):washT voidW r s F (.cons ⟨x,[],[]⟩ T .nil) = .nil /\ blkT r (.cons ⟨x,[],[]⟩ T .nil) = 0:=by
 refine ⟨?_,?_⟩
 ·unfold washT washL;rw [if_neg hx,if_pos h];rfl
 ·unfold blkT;rw [if_pos h];rfl
theorem opens_same (r s:Bool) (F:List FileL) (x:List UInt8) (T:Tr) (hx:x ≠ []) (h:elemN x = 1):washT voidW r s F (.cons ⟨x,[],[]⟩ T .nil) = washT voidW r s F T /\ blkT r (.cons ⟨x,[],[]⟩ T .nil) = blkT r T:=by
 refine ⟨?_,?_⟩
 ·unfold washT;rw [washL_cons];unfold nodeWs;rw [if_neg hx,if_neg (by rw [h];decide),if_pos (.inl h)];rfl
 ·show (if elemN x = 0 then 0 else (if blkB r x [] = true /\ pixB [] = false then 1 else 0) + blkT r T) + 0 = blkT r T
  rw [if_neg (by rw [h];decide),if_neg (by unfold blkB;simp)];omega
theorem below_drewB {B:Nat} {a w:World} (h:Below B a w) (n:Nat):Below B a (w.drewN n):=h.trans ⟨rfl,rfl,rfl,Nat.le_refl _,fun _ _=>rfl⟩
set_option maxHeartbeats 16000000 in
theorem law_WashDrops (r s q : Bool) (A : Option Addr) (F : List FileL) (c : Nat) (TA : Option Addr) (TC : Nat) (T : Tr) (nm : ByteArray) (hnz : nm.size ≤ maxLen) (w : World) (hF : FilesIn w (.slice A F.length c) F) (hfm : F.length ≤ maxLen) (hT : NodesIn w (.slice TA T.len TC) T) (hE : EnvH w) :
    Calls Tryz.prog 5 #[caseV r s q A F.length c TA T.len TC, .string nm] w fun e w' => e = .returned (.bool true) ∧ Below w.heap.size w w' := by
  obtain ⟨W, hW⟩ : ∃ W, W = w.alloc (.cells #[.bool r, .bool s, .bool q, .slice A F.length c, .slice TA T.len TC] 27) := ⟨_, rfl⟩
  have hb : Below w.heap.size w W := by rw [hW]; exact below_one w _
  have hkk : W.heap[w.heap.size]? = some (.cells #[.bool r, .bool s, .bool q, .slice A F.length c, .slice TA T.len TC] 27 (0, 0)) := by rw [hW]; exact heap_alloc_new w _
  have HC : Hid (∀ w', Below W.heap.size W w' → w'.cell? ⟨w.heap.size, 0, none⟩ = some (.bool r) ∧ w'.cell? ⟨w.heap.size, 1, none⟩ = some (.bool s) ∧ w'.cell? ⟨w.heap.size, 2, none⟩ = some (.bool q) ∧ w'.cell? ⟨w.heap.size, 3, none⟩ = some (.slice A F.length c) ∧ w'.cell? ⟨w.heap.size, 4, none⟩ = some (.slice TA T.len TC)) := hide (fun w' hb' => by
    have k1 := (hb'.block _ (lt_of_block hkk)).trans hkk
    exact ⟨by rw [Lib.cell_of_heap k1]; rfl, by rw [Lib.cell_of_heap k1]; rfl, by rw [Lib.cell_of_heap k1]; rfl, by rw [Lib.cell_of_heap k1]; rfl, by rw [Lib.cell_of_heap k1]; rfl⟩)
  have HI : Hid (∀ w', Below W.heap.size W w' → FilesIn w' (.slice A F.length c) F ∧ NodesIn w' (.slice TA T.len TC) T ∧ EnvH w' ∧ Below w.heap.size w w') := hide (fun w' hb' => ⟨(hF.kept hb).kept hb', (NodesIn.kept hT hb).kept hb', (hE.kept hb).kept hb', wash_two hb hb'⟩)
  have HFW := hide (few19_any r s q A F c TA TC T W (hF.kept hb) hfm (NodesIn.kept hT hb))
  have HW := hide hW
  have HR := hide (Below.refl W.heap.size W)
  have HLV : Hid (∀ w', Below W.heap.size W w' → Calls Tryz.prog 7 #[] w' fun e w'' => e = .returned (.bool true) ∧ Below w'.heap.size w' w'') := hide (fun w' hb' => live19_any w' ((hE.kept hb).kept hb'))
  obtain ⟨c0, c1, c2, c3, c4⟩ := HC.out W HR.out
  unfold maxLen at hnz
  clear hF hfm hT hE hb hkk hW
  go_enter Tryz.func5, Tryz.ntmps5
  go_wp2_with fail
  rw [← HW.out]
  go_wp2_with fail
  refine HFW.out.mono ?_
  rintro e w1 ⟨bs, rfl, hbs, hb1⟩
  have HB1 := hide hb1
  have HBS := hide hbs
  clear hb1 hbs c0 c1 c2 c3 c4
  have hcut : ∀ w2, Below W.heap.size W w2 → Below w.heap.size w w2 := fun w2 h => (HI.out w2 h).2.2.2
  have HCUT := hide hcut
  clear hcut
  cases bs with
  | false =>
    go_wp2_with fail
    refine (HLV.out _ HB1.out).mono ?_
    rintro e w2 ⟨rfl, hb2⟩
    have HB2 := hide (HCUT.out w2 (wash_two HB1.out hb2))
    clear hb2
    go_wp2_with fail
    go_ret
    exact ⟨rfl, HB2.out⟩
  | true =>
  have HSM : Hid (F.length ≤ 20 ∧ (∀ f ∈ F, fileF f) ∧ T.count ≤ 60 ∧ T.all smallH = true) := hide (by first | exact HBS.out rfl | exact HBS.out trivial | exact HBS.out)
  clear HBS
  by_cases hz : nm.size ≤ 300
  · have z1 : decide ((300 : Int) < nm.size) = false := decide_eq_false (by omega)
    by_cases hn : nm.data.toList = []
    · have z2 : nm.toList.isEmpty = true := by rw [bytes_list, hn]; rfl
      clear hn
      go_wp2_with fail
      refine (HLV.out _ HB1.out).mono ?_
      rintro e w2 ⟨rfl, hb2⟩
      have HB2 := hide (HCUT.out w2 (wash_two HB1.out hb2))
      clear hb2
      go_wp2_with fail
      go_ret
      exact ⟨rfl, HB2.out⟩
    · have z2 : nm.toList.isEmpty = false := by
        rw [bytes_list]
        cases e : nm.data.toList with
        | nil => exact absurd e hn
        | cons _ _ => rfl
      obtain ⟨W2, hW2⟩ : ∃ W2, W2 = w1.alloc (.cells #[.string nm, .slice none 0 0, .string ⟨#[]⟩, .slice TA T.len TC] 36) := ⟨_, rfl⟩
      have hb2 : Below w1.heap.size w1 W2 := by rw [hW2]; exact below_one w1 _
      have HB2 := hide (wash_two HB1.out hb2)
      have hx2 : W2.heap[w1.heap.size]? = some (.cells #[.string nm, .slice none 0 0, .string ⟨#[]⟩, .slice TA T.len TC] 36 (0, 0)) := by rw [hW2]; exact heap_alloc_new w1 _
      obtain ⟨X, hX⟩ : ∃ X : NdH, X = ⟨nm.data.toList, [], []⟩ := ⟨_, rfl⟩
      obtain ⟨xb, hxb⟩ : ∃ xb, xb = w1.heap.size := ⟨_, rfl⟩
      rw [← hxb] at hx2
      have hxn : NodesIn W2 (.slice (some ⟨xb, 0, none⟩) 1 1) (.cons X T .nil) := by
        have hT2 := (HI.out W2 HB2.out).2.1
        exact nodes_of (node_at hx2 (by rw [hX]; show some (Value.string nm) = some (.string (str nm.data.toList)); rw [str_of]) rfl (by rw [hX]; rfl) rfl (by rw [hX]; exact no_attrs _) hT2 trivial) rfl (by decide)
      have hXok : (Tr.cons X T .nil).all okW = true := by
        simp only [Tr.all, Bool.and_eq_true]
        refine ⟨?_, small_okW HSM.out.2.2.2, trivial⟩
        rw [hX]; rfl
      have hXc : (Tr.cons X T .nil).count ≤ 100000 := by show 1 + T.count + 0 ≤ _; have := HSM.out.2.2.1; omega
      have HCX : Hid (∀ w', Below W2.heap.size W2 w' → Calls Tryz.prog 8 #[.agg #[.bool r, .bool s, .bool q], .slice A F.length c, .slice (some ⟨xb, 0, none⟩) 1 1] w' fun e w'' => ∃ v', e = .returned v' ∧ NodesIn w'' v' (washT voidW r s F (.cons X T .nil)) ∧ Below w'.heap.size w' w'') := hide (fun w' hb' => by
        have h3 := HI.out w' (wash_two HB2.out hb')
        exact washClean_any r s q A F c _ _ w' h3.1 (by have := HSM.out.1; omega) h3.2.2.1.2 (NodesIn.kept hxn hb') hXok hXc)
      have HBX : Hid (∀ w', Below W2.heap.size W2 w' → Calls Tryz.prog 13 #[.agg #[.bool r, .bool s, .bool q], .slice (some ⟨xb, 0, none⟩) 1 1] w' fun e w'' => e = .returned (.int .i64 (blkT r (.cons X T .nil) : Int)) ∧ Below w'.heap.size w' w'') := hide (fun w' hb' => by
        have h3 := HI.out w' (wash_two HB2.out hb')
        exact washBlocked_any r s q _ _ w' h3.2.2.1.2.1 (NodesIn.kept hxn hb') hXok hXc)
      have HEN := hide (element_any nm W2)
      have HW2 := hide (And.intro hW2 hxb)
      have HRF := hide (Below.refl W2.heap.size W2)
      have HCB : Hid (∀ w', Below W2.heap.size W2 w' → w'.cell? ⟨w.heap.size, 0, none⟩ = some (.bool r) ∧ w'.cell? ⟨w.heap.size, 1, none⟩ = some (.bool s) ∧ w'.cell? ⟨w.heap.size, 2, none⟩ = some (.bool q) ∧ w'.cell? ⟨w.heap.size, 3, none⟩ = some (.slice A F.length c) ∧ w'.cell? ⟨w.heap.size, 4, none⟩ = some (.slice TA T.len TC)) := hide (fun w' hb' => HC.out w' (wash_two HB2.out hb'))
      have HCU2 : Hid (∀ w', Below W2.heap.size W2 w' → Below w.heap.size w w') := hide (fun w' hb' => HCUT.out w' (wash_two HB2.out hb'))
      have HLV2 : Hid (∀ w', Below W2.heap.size W2 w' → Calls Tryz.prog 7 #[] w' fun e w'' => e = .returned (.bool true) ∧ Below w'.heap.size w' w'') := hide (fun w' hb' => HLV.out w' (wash_two HB2.out hb'))
      obtain ⟨c0, c1, c2, c3, c4⟩ := HC.out w1 HB1.out
      have HNE := hide hn
      have HXX := hide hX
      clear hn hb2 hx2 hxn hXok hXc hW2 hxb hX
      by_cases k0 : elemN nm.data.toList = 0
      · rw [k0, show (((0 : Nat) : Int)) = 0 from rfl] at HEN
        obtain ⟨d1, d2⟩ := drops_nil r s F nm.data.toList T HNE.out k0
        rw [← HXX.out] at d1 d2
        rw [d1] at HCX
        rw [d2] at HBX
        clear k0 d1 d2
        go_wp2_with fail
        rw [← HW2.out.1, ← HW2.out.2]
        refine HEN.out.mono ?_
        rintro e w2 ⟨rfl, rfl⟩
        clear c0 c1 c2 c3 c4
        obtain ⟨c0, c1, c2, c3, c4⟩ := HCB.out W2 HRF.out
        go_wp2_with fail
        refine (HCX.out _ HRF.out).mono ?_
        rintro e w3 ⟨v3, rfl, hv3, hb3⟩
        obtain ⟨VA, VC, hvv⟩ := NodesC.form hv3
        subst hvv
        have HB3 := hide hb3
        clear c0 c1 c2 c3 c4 hv3 hb3
        obtain ⟨c0, c1, c2, c3, c4⟩ := HCB.out w3 HB3.out
        go_wp2_with fail
        refine (HBX.out _ HB3.out).mono ?_
        rintro e w4 ⟨rfl, hb4⟩
        have HB4 := hide (wash_two HB3.out hb4)
        clear hb4
        go_wp2_with fail
        refine (HLV2.out _ HB4.out).mono ?_
        rintro e w5 ⟨rfl, hb5⟩
        have HB5 := hide (HCU2.out w5 (wash_two HB4.out hb5))
        clear hb5
        go_wp2_with fail
        go_ret
        exact ⟨rfl, HB5.out⟩
      · by_cases k1 : elemN nm.data.toList = 1
        · rw [k1, show (((1 : Nat) : Int)) = 1 from rfl] at HEN
          obtain ⟨d1, d2⟩ := opens_same r s F nm.data.toList T HNE.out k1
          rw [← HXX.out] at d1 d2
          rw [d1] at HCX
          rw [d2] at HBX
          have HCL : Hid (∀ w', Below W2.heap.size W2 w' → Calls Tryz.prog 8 #[.agg #[.bool r, .bool s, .bool q], .slice A F.length c, .slice TA T.len TC] w' fun e w'' => ∃ v', e = .returned v' ∧ NodesIn w'' v' (washT voidW r s F T) ∧ Below w'.heap.size w' w'') := hide (fun w' hb' => by
            have h3 := HI.out w' (wash_two HB2.out hb')
            exact washClean_any r s q A F c _ _ w' h3.1 (by have := HSM.out.1; omega) h3.2.2.1.2 h3.2.1 (small_okW HSM.out.2.2.2) (by have := HSM.out.2.2.1; omega))
          have HBL : Hid (∀ w', Below W2.heap.size W2 w' → Calls Tryz.prog 13 #[.agg #[.bool r, .bool s, .bool q], .slice TA T.len TC] w' fun e w'' => e = .returned (.int .i64 (blkT r T : Int)) ∧ Below w'.heap.size w' w'') := hide (fun w' hb' => by
            have h3 := HI.out w' (wash_two HB2.out hb')
            exact washBlocked_any r s q _ _ w' h3.2.2.1.2.1 h3.2.1 (small_okW HSM.out.2.2.2) (by have := HSM.out.2.2.1; omega))
          have hTT : (washT voidW r s F T).count < 1048576 ∧ (washT voidW r s F T).all attrsFew = true := by
            refine ⟨by have := washT_count voidW r s F T; have := HSM.out.2.2.1; omega, ?_⟩
            have hel : ∀ h, smallH h = true → (elemA r s F h.name [] h.attrs).length ≤ 40 := fun h hs => by
              have h1 := elemA_len r s F h.name h.attrs []
              have h2 := (fitT_len hs).2.2.1
              have h3 : h.attrs.length ≤ 40 := h2
              simp only [List.length_nil] at h1; omega
            refine washT_all voidW r s F attrsFew smallH (fun t => rfl) (fun h hs => ?_) (fun h hs => ?_) T HSM.out.2.2.2
            · have := hel h hs
              unfold attrsFew
              exact decide_eq_true (by show (elemA r s F h.name [] h.attrs).length ≤ _; omega)
            · have := hel h hs
              have h4 := linkA_len (elemA r s F h.name [] h.attrs)
              unfold attrsFew
              exact decide_eq_true (by show (linkA (elemA r s F h.name [] h.attrs)).length ≤ _; omega)
          obtain ⟨TT, hTe⟩ : ∃ TT, TT = washT voidW r s F T := ⟨_, rfl⟩
          rw [← hTe] at HCX HCL hTT
          obtain ⟨N0, hN0⟩ : ∃ N0 : Int, N0 = (blkT r T : Int) := ⟨_, rfl⟩
          rw [← hN0] at HBX HBL
          have HTT := hide hTT
          have HSAME : Hid (∀ w' v1 v2, NodesIn w' v1 TT → NodesIn w' v2 TT → Calls Tryz.prog 14 #[v1, v2] w' fun e w'' => e = .returned (.bool true) ∧ ∃ m, w'' = w'.drewN m) := hide (fun w' v1 v2 h1 h2 => by
            have := same14_any v1 v2 TT TT w' HTT.out.1 h1 h2 HTT.out.2
            rw [decide_eq_true rfl] at this
            exact this)
          have HS8 : Hid (∀ w', Below W2.heap.size W2 w' → Below W2.heap.size W2 w' ∧ w'.cell? ⟨w.heap.size, 0, none⟩ = some (.bool r) ∧ w'.cell? ⟨w.heap.size, 1, none⟩ = some (.bool s) ∧ w'.cell? ⟨w.heap.size, 2, none⟩ = some (.bool q) ∧ w'.cell? ⟨w.heap.size, 3, none⟩ = some (.slice A F.length c) ∧ w'.cell? ⟨w.heap.size, 4, none⟩ = some (.slice TA T.len TC)) := hide (fun w' hb' => ⟨hb', HCB.out w' hb'⟩)
          clear k0 k1 d1 d2 hTT hTe hN0
          go_wp2_with fail
          rw [← HW2.out.1, ← HW2.out.2]
          refine HEN.out.mono ?_
          rintro e w2 ⟨rfl, rfl⟩
          clear c0 c1 c2 c3 c4
          obtain ⟨c0, c1, c2, c3, c4⟩ := HCB.out W2 HRF.out
          have hrf := HRF.out
          go_wp2_with fail
          go_region_held_law (fun w' => Below W2.heap.size W2 w' ∧ w'.cell? ⟨w.heap.size, 0, none⟩ = some (.bool r) ∧ w'.cell? ⟨w.heap.size, 1, none⟩ = some (.bool s) ∧ w'.cell? ⟨w.heap.size, 2, none⟩ = some (.bool q) ∧ w'.cell? ⟨w.heap.size, 3, none⟩ = some (.slice A F.length c) ∧ w'.cell? ⟨w.heap.size, 4, none⟩ = some (.slice TA T.len TC))
            (first | (with_reducible exact (HS8.out _ (by with_reducible assumption))) | (with_reducible exact (HS8.out _ (Below.drew (by with_reducible assumption)))) | go_keep)
            (first
            | (go_at_call 8; (with_reducible refine (HCL.out _ (by first | with_reducible assumption | with_reducible exact Below.drew (by with_reducible assumption))).mono ?_); rintro e wl ⟨vl, rfl, hvl, hbl⟩
               have HBOTH := hide (And.intro (NodesIn.kept HX1.out hbl) hvl)
               have hbn : Below W2.heap.size W2 wl := wash_two (by first | with_reducible assumption | with_reducible exact Below.drew (by with_reducible assumption)) hbl
               clear hvl hbl)
            | (go_at_call 8; (with_reducible refine (HCX.out _ (by first | with_reducible assumption | with_reducible exact Below.drew (by with_reducible assumption))).mono ?_); rintro e wx ⟨vx, rfl, hvx, hbx⟩
               have HBOTH := hide (And.intro hvx (NodesIn.kept HL1.out hbx))
               have hbn : Below W2.heap.size W2 wx := wash_two (by first | with_reducible assumption | with_reducible exact Below.drew (by with_reducible assumption)) hbx
               clear hvx hbx)
            | (go_at_call 8; (with_reducible refine (HCX.out _ (by first | with_reducible assumption | with_reducible exact Below.drew (by with_reducible assumption))).mono ?_); rintro e wx ⟨vx, rfl, hvx, hbx⟩
               have HX1 := hide hvx
               have hbn : Below W2.heap.size W2 wx := wash_two (by first | with_reducible assumption | with_reducible exact Below.drew (by with_reducible assumption)) hbx
               clear hvx hbx)
            | (go_at_call 8; (with_reducible refine (HCL.out _ (by first | with_reducible assumption | with_reducible exact Below.drew (by with_reducible assumption))).mono ?_); rintro e wl ⟨vl, rfl, hvl, hbl⟩
               have HL1 := hide hvl
               have hbn : Below W2.heap.size W2 wl := wash_two (by first | with_reducible assumption | with_reducible exact Below.drew (by with_reducible assumption)) hbl
               clear hvl hbl)
            | (go_at_call 14; (with_reducible refine (HSAME.out _ _ _ HBOTH.out.1 HBOTH.out.2).mono ?_); rintro e ws ⟨rfl, ms, hws⟩
               have hbn : Below W2.heap.size W2 ws := by rw [hws]; exact below_drewB (by with_reducible assumption) ms
               clear hws)
            | (go_at_call 13; (with_reducible refine (HBX.out _ (by first | with_reducible assumption | with_reducible exact Below.drew (by with_reducible assumption))).mono ?_); rintro e wb ⟨rfl, hbb⟩
               have hbn : Below W2.heap.size W2 wb := wash_two (by first | with_reducible assumption | with_reducible exact Below.drew (by with_reducible assumption)) hbb
               clear hbb)
            | (go_at_call 13; (with_reducible refine (HBL.out _ (by first | with_reducible assumption | with_reducible exact Below.drew (by with_reducible assumption))).mono ?_); rintro e wb ⟨rfl, hbb⟩
               have hbn : Below W2.heap.size W2 wb := wash_two (by first | with_reducible assumption | with_reducible exact Below.drew (by with_reducible assumption)) hbb
               clear hbb)
            | (go_at_call 7; (with_reducible refine (HLV2.out _ (by first | with_reducible assumption | with_reducible exact Below.drew (by with_reducible assumption))).mono ?_); rintro e wv ⟨rfl, hbv⟩
               have hbn : Below W2.heap.size W2 wv := wash_two (by first | with_reducible assumption | with_reducible exact Below.drew (by with_reducible assumption)) hbv
               have HEND := hide (HCU2.out wv hbn)
               clear hbv))
          all_goals
            go_wp2_with fail
            go_ret
            exact ⟨rfl, HEND.out⟩
        · have e0 : (((elemN nm.data.toList : Nat) : Int) == 0) = false := beq_eq_false_iff_ne.2 (by omega)
          have e1 : (((elemN nm.data.toList : Nat) : Int) == 1) = false := beq_eq_false_iff_ne.2 (by omega)
          obtain ⟨N0, hN0⟩ : ∃ N0 : Int, N0 = ((elemN nm.data.toList : Nat) : Int) := ⟨_, rfl⟩
          rw [← hN0] at HEN e0 e1
          clear k0 k1 hN0
          go_wp2_with fail
          rw [← HW2.out.1, ← HW2.out.2]
          refine HEN.out.mono ?_
          rintro e w2 ⟨rfl, rfl⟩
          clear c0 c1 c2 c3 c4
          go_wp2_with fail
          refine (HLV2.out _ HRF.out).mono ?_
          rintro e w5 ⟨rfl, hb5⟩
          have HB5 := hide (HCU2.out w5 hb5)
          clear hb5
          go_wp2_with fail
          go_ret
          exact ⟨rfl, HB5.out⟩
  · have z1 : decide ((300 : Int) < nm.size) = true := decide_eq_true (by omega)
    go_wp2_with fail
    refine (HLV.out _ HB1.out).mono ?_
    rintro e w2 ⟨rfl, hb2⟩
    have HB2 := hide (HCUT.out w2 (wash_two HB1.out hb2))
    clear hb2
    go_wp2_with fail
    go_ret
    exact ⟨rfl, HB2.out⟩
end Go.Proofs.YtmgpmdfmkdhfgaaGreatDoor
