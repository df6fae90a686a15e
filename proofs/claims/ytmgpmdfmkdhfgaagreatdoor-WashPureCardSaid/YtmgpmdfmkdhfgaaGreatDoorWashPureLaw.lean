import Derived.Test.YtmgpmdfmkdhfgaaGreatDoorWashO
namespace Go.Proofs.YtmgpmdfmkdhfgaaGreatDoor
open Go.RowKit
set_option linter.unusedVariables false
set_option linter.unusedSimpArgs false
set_option maxRecDepth 100000
theorem sign_small {h:NdH} (hs:smallH h = true):(validL h.text).length <= 1000 /\ (signT h.attrs).length <= 1000:=by
 obtain ⟨_,h2,h3,h4⟩:=fitT_len hs;have h2:h.text.length <= 300:=h2;have h4:∀ a ∈ h.attrs,a.1.length <= 300 /\ a.2.length <= 300:=h4;refine ⟨by have:=validL_length h.text;omega,?_⟩;have h1:=validL_length (altL h.attrs)
 have h5:(altL h.attrs).length <= 300:=by
  unfold altL;split
  ·decide
  ·cases e:firstA h.attrs n_alt with
   | none=>show ([]:List UInt8).length <= 300;decide
   | some x =>
    obtain ⟨a,ha,e2⟩:=firstA_mem e;show x.length <= 300
    rw [<- e2];exact (h4 a ha).2
 unfold signT;simp only [List.length_cons,List.length_append,List.length_nil];omega
theorem all_both {f g k:NdH -> Bool} (hk:∀ h,f h = true -> g h = true -> k h = true) {T:Tr} (hf:T.all f = true) (hg:T.all g = true):T.all k = true:=by
 induction T with
 | nil=>rfl
 | cons h K R ihk ihr =>
  simp only [Tr.all,Bool.and_eq_true] at hf hg ⊢;exact ⟨hk h hf.1 hg.1,ihk hf.2.1 hg.2.1,ihr hf.2.2 hg.2.2⟩
theorem wash_okP (r s:Bool) (F:List FileL) (T:Tr) (hc:T.count <= 60) (hs:T.all smallH = true):(washT voidW r s F T).all okP = true:=by
 have ha:(washT voidW r s F T).all (fun h=>decide (h.attrs.length <= 1000000)) = true:=by
  have hel:∀ h,smallH h = true -> (elemA r s F h.name [] h.attrs).length <= 40:=fun h hs=>by
   have h1:=elemA_len r s F h.name h.attrs [];have h3:h.attrs.length <= 40:=(fitT_len hs).2.2.1;simp only [List.length_nil] at h1;omega
  refine washT_all voidW r s F _ smallH (fun t=>rfl) (fun h hs=>?_) (fun h hs=>?_) T hs
  ·have:=hel h hs;exact decide_eq_true (by show (elemA r s F h.name [] h.attrs).length <= _;omega)
  ·have:=hel h hs;have h4:=linkA_len (elemA r s F h.name [] h.attrs);exact decide_eq_true (by show (linkA (elemA r s F h.name [] h.attrs)).length <= _;omega)
 have ht:(washT voidW r s F T).all (fun x=>decide (x.text.length <= 60000)) = true:=by
  refine tz_all _ _ ?_;unfold washT;rw [tzW_end]
  have h1:=wash_text voidW r s F 1000 false T ([],[]) (by
   refine all_both (f:=smallH) (g:=smallH) (fun h h1 _=>?_) hs hs;have:=sign_small h1;simp only [Bool.and_eq_true,decide_eq_true_eq];exact this)
  have h2:tzW ([],[]) = 0:=rfl;omega
 refine all_both (fun h h1 h2=>?_) ha ht;simp only [decide_eq_true_eq] at h1 h2;unfold okP;simp only [Bool.and_eq_true,decide_eq_true_eq];exact ⟨h1,by omega⟩
set_option maxHeartbeats 16000000 in
theorem law_WashPure (r s q : Bool) (A : Option Addr) (F : List FileL) (c : Nat) (TA : Option Addr) (TC : Nat) (T : Tr) (w : World) (hF : FilesIn w (.slice A F.length c) F) (hfm : F.length ≤ maxLen) (hT : NodesIn w (.slice TA T.len TC) T) (hE : EnvH w) :
    Calls Tryz.prog 3 #[caseV r s q A F.length c TA T.len TC] w fun e w' => e = .returned (.bool true) ∧ Below w.heap.size w w' := by
  obtain ⟨W, hW⟩ : ∃ W, W = w.alloc (.cells #[.bool r, .bool s, .bool q, .slice A F.length c, .slice TA T.len TC] 27) := ⟨_, rfl⟩
  have hb : Below w.heap.size w W := by rw [hW]; exact below_one w _
  have hkk : W.heap[w.heap.size]? = some (.cells #[.bool r, .bool s, .bool q, .slice A F.length c, .slice TA T.len TC] 27 (0, 0)) := by rw [hW]; exact heap_alloc_new w _
  have HC : Hid (∀ w', Below W.heap.size W w' → w'.cell? ⟨w.heap.size, 0, none⟩ = some (.bool r) ∧ w'.cell? ⟨w.heap.size, 1, none⟩ = some (.bool s) ∧ w'.cell? ⟨w.heap.size, 2, none⟩ = some (.bool q) ∧ w'.cell? ⟨w.heap.size, 3, none⟩ = some (.slice A F.length c) ∧ w'.cell? ⟨w.heap.size, 4, none⟩ = some (.slice TA T.len TC)) := hide (fun w' hb' => by
    have k1 := (hb'.block _ (lt_of_block hkk)).trans hkk
    exact ⟨by rw [Lib.cell_of_heap k1]; rfl, by rw [Lib.cell_of_heap k1]; rfl, by rw [Lib.cell_of_heap k1]; rfl, by rw [Lib.cell_of_heap k1]; rfl, by rw [Lib.cell_of_heap k1]; rfl⟩)
  have HI : Hid (∀ w', Below W.heap.size W w' → FilesIn w' (.slice A F.length c) F ∧ NodesIn w' (.slice TA T.len TC) T ∧ EnvH w' ∧ Below w.heap.size w w') := hide (fun w' hb' => ⟨(hF.kept hb).kept hb', (NodesIn.kept hT hb).kept hb', (hE.kept hb).kept hb', wash_two hb hb'⟩)
  have HFW := hide (few19_any r s q A F c TA TC T W (hF.kept hb) hfm (NodesIn.kept hT hb))
  have HW := hide hW
  have HR := hide (Below.refl W.heap.size W)
  have HLV : Hid (∀ w', Below W.heap.size W w' → Calls Tryz.prog 7 #[] w' fun e w'' => e = .returned (.bool true) ∧ Below w'.heap.size w' w'') := hide (fun w' hb' => live19_any w' ((hE.kept hb).kept hb'))
  obtain ⟨c0, c1, c2, c3, c4⟩ := HC.out W HR.out
  clear hF hfm hT hE hb hkk hW
  go_enter Tryz.func3, Tryz.ntmps3
  go_wp2_with fail
  rw [← HW.out]
  go_wp2_with fail
  refine HFW.out.mono ?_
  rintro e w1 ⟨bs, rfl, hbs, hb1⟩
  have HB1 := hide hb1
  have HBS := hide hbs
  clear hb1 hbs c0 c1 c2 c3 c4
  have HCUT : Hid (∀ w2, Below W.heap.size W w2 → Below w.heap.size w w2) := hide (fun w2 h => (HI.out w2 h).2.2.2)
  cases bs with
  | false =>
    go_wp2_with fail
    refine (HLV.out _ HB1.out).mono ?_
    rintro e w2 ⟨rfl, hb2⟩
    have HB2 := hide (HCUT.out w2 (wash_two HB1.out hb2))
    clear hb2
    go_wp2_with fail
    go_ret
    exact ⟨rfl, HB2.out⟩
  | true =>
  have HSM : Hid (F.length ≤ 20 ∧ (∀ f ∈ F, fileF f) ∧ T.count ≤ 60 ∧ T.all smallH = true) := hide (by first | exact HBS.out rfl | exact HBS.out trivial | exact HBS.out)
  clear HBS
  have hx := HI.out w1 HB1.out
  have HCL := hide (washClean_any r s q A F c _ _ w1 hx.1 (by have := HSM.out.1; omega) hx.2.2.1.2 hx.2.1 (small_okW HSM.out.2.2.2) (by have := HSM.out.2.2.1; omega))
  obtain ⟨c0, c1, c2, c3, c4⟩ := HC.out w1 HB1.out
  clear hx
  go_wp2_with fail
  refine HCL.out.mono ?_
  rintro e w2 ⟨v2, rfl, hv2, hb2⟩
  obtain ⟨V2A, V2C, hvv⟩ := NodesC.form hv2
  subst hvv
  have hbw2 := wash_two HB1.out hb2
  have hcnt : (washT voidW r s F T).count ≤ 60 := Nat.le_trans (washT_count voidW r s F T) HSM.out.2.2.1
  have hokp := wash_okP r s F T HSM.out.2.2.1 HSM.out.2.2.2
  have hpur := wash_pure voidW r s F (by decide) T
  have hdep := washT_depth voidW r s F T
  have hdc := HSM.out.2.2.1
  obtain ⟨TT, hTT⟩ : ∃ TT, TT = washT voidW r s F T := ⟨_, rfl⟩
  rw [← hTT] at hv2 hcnt hokp hpur hdep ⊢
  have HPU : Hid (∀ w', Below w2.heap.size w2 w' → Calls Tryz.prog 9 #[.slice V2A TT.len V2C] w' fun e w'' => e = .returned (.bool true) ∧ Below w'.heap.size w' w'') := hide (fun w' hb' => pure_all (TT.count + 1) _ TT w' (Nat.lt_succ_self _) (NodesIn.kept hv2 hb') (by omega) hokp hpur)
  have HD1 : Hid (∀ w', Below w2.heap.size w2 w' → Calls Tryz.prog 10 #[.slice V2A TT.len V2C] w' fun e w'' => e = .returned (.int .i64 (TT.depth : Int)) ∧ Below w'.heap.size w' w'') := hide (fun w' hb' => depth14_any _ TT w' (NodesIn.kept hv2 hb') (by omega))
  have HD2 : Hid (∀ w', Below w2.heap.size w2 w' → Calls Tryz.prog 10 #[.slice TA T.len TC] w' fun e w'' => e = .returned (.int .i64 (T.depth : Int)) ∧ Below w'.heap.size w' w'') := hide (fun w' hb' => depth14_any _ T w' (HI.out w' (wash_two hbw2 hb')).2.1 (by omega))
  have HLV2 : Hid (∀ w', Below w2.heap.size w2 w' → Calls Tryz.prog 7 #[] w' fun e w'' => e = .returned (.bool true) ∧ Below w'.heap.size w' w'') := hide (fun w' hb' => HLV.out w' (wash_two hbw2 hb'))
  have HCU2 : Hid (∀ w', Below w2.heap.size w2 w' → Below w.heap.size w w') := hide (fun w' hb' => HCUT.out w' (wash_two hbw2 hb'))
  obtain ⟨D1, hD1⟩ : ∃ D1 : Int, D1 = (TT.depth : Int) := ⟨_, rfl⟩
  obtain ⟨D2, hD2⟩ : ∃ D2 : Int, D2 = (T.depth : Int) := ⟨_, rfl⟩
  rw [← hD1] at HD1
  rw [← hD2] at HD2
  have z0 : decide (D1 ≤ D2) = true := decide_eq_true (by omega)
  have z1 : D1 ≤ D2 := by omega
  have HS8 : Hid (∀ w', Below w2.heap.size w2 w' → Below w2.heap.size w2 w' ∧ w'.cell? ⟨w.heap.size, 4, none⟩ = some (.slice TA T.len TC)) := hide (fun w' hb' => ⟨hb', (HC.out w' (wash_two hbw2 hb')).2.2.2.2⟩)
  clear c0 c1 c2 c3 c4
  have c4 := (HS8.out w2 (Below.refl _ _)).2
  have hrf := Below.refl w2.heap.size w2
  clear hv2 hb2 hbw2 hcnt hokp hpur hdep hdc hTT hD1 hD2
  go_wp2_with fail
  first | (go_region_held_law (fun w' => Below w2.heap.size w2 w' ∧ w'.cell? ⟨w.heap.size, 4, none⟩ = some (.slice TA T.len TC))
    (first | (with_reducible exact (HS8.out _ (by with_reducible assumption))) | (with_reducible exact (HS8.out _ (Below.drew (by with_reducible assumption)))) | go_keep)
    (first
    | (go_at_call 9; (with_reducible refine (HPU.out _ (by first | with_reducible assumption | with_reducible exact Below.drew (by with_reducible assumption))).mono ?_); rintro e wp ⟨rfl, hbp⟩
       have hbn : Below w2.heap.size w2 wp := wash_two (by first | with_reducible assumption | with_reducible exact Below.drew (by with_reducible assumption)) hbp
       clear hbp)
    | (go_at_call 10; (with_reducible refine (HD1.out _ (by first | with_reducible assumption | with_reducible exact Below.drew (by with_reducible assumption))).mono ?_); rintro e wp ⟨rfl, hbp⟩
       have hbn : Below w2.heap.size w2 wp := wash_two (by first | with_reducible assumption | with_reducible exact Below.drew (by with_reducible assumption)) hbp
       clear hbp)
    | (go_at_call 10; (with_reducible refine (HD2.out _ (by first | with_reducible assumption | with_reducible exact Below.drew (by with_reducible assumption))).mono ?_); rintro e wp ⟨rfl, hbp⟩
       have hbn : Below w2.heap.size w2 wp := wash_two (by first | with_reducible assumption | with_reducible exact Below.drew (by with_reducible assumption)) hbp
       clear hbp)
    | (go_at_call 7; (with_reducible refine (HLV2.out _ (by first | with_reducible assumption | with_reducible exact Below.drew (by with_reducible assumption))).mono ?_); rintro e wp ⟨rfl, hbp⟩
       have hbn : Below w2.heap.size w2 wp := wash_two (by first | with_reducible assumption | with_reducible exact Below.drew (by with_reducible assumption)) hbp
       have HEND := hide (HCU2.out wp hbn)
       clear hbp))) | fail
  all_goals
    go_wp2_with fail
    go_ret
    exact ⟨rfl, HEND.out⟩
end Go.Proofs.YtmgpmdfmkdhfgaaGreatDoor
