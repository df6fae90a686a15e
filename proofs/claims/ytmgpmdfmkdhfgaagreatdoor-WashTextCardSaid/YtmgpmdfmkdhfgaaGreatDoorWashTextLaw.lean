import Derived.Test.YtmgpmdfmkdhfgaaGreatDoorRef19L
import Derived.Test.YtmgpmdfmkdhfgaaGreatDoorBaseM
import Derived.Test.YtmgpmdfmkdhfgaaGreatDoorRefValid
import Derived.Test.YtmgpmdfmkdhfgaaGreatDoorBaseO
namespace Go.Proofs.YtmgpmdfmkdhfgaaGreatDoor
open Go.RowKit
set_option linter.unusedVariables false
set_option linter.unusedSimpArgs false
set_option maxRecDepth 100000
def txN (x:ByteArray):NdH × Tr:=(⟨[],[],x.data.toList⟩,.nil)
def allV (l:List ByteArray):List UInt8:=(l.map fun x=>validL x.data.toList).flatten
theorem wash_texts (r s:Bool) (F:List FileL) (l:List ByteArray) (a:WashL):washL voidW r s F false (Tr.of (l.map txN)) a = (a.1,a.2 ++ allV l):=by
 induction l generalizing a with
 | nil=>show a = (a.1,a.2 ++ []);rw [List.append_nil]
 | cons x l ih =>
  rw [List.map_cons];show washL voidW r s F false (.cons ⟨[],[],x.data.toList⟩ .nil (Tr.of (l.map txN))) a = _
  rw [washL_cons,ih];unfold nodeWs allV;rw [if_pos rfl];unfold wTxt;simp
theorem washT_texts (r s:Bool) (F:List FileL) (l:List ByteArray):washT voidW r s F (Tr.of (l.map txN)) = if allV l = [] then .nil else .cons ⟨[],[],allV l⟩ .nil .nil:=by
 unfold washT;rw [wash_texts];unfold wEnd;simp only [List.nil_append];split <;> rfl
theorem texts_ok (l:List ByteArray) (h:∀ x ∈ l,x.size <= 300):(Tr.of (l.map txN)).all okW = true /\ (Tr.of (l.map txN)).count = l.length:=by
 induction l with
 | nil=>exact ⟨rfl,rfl⟩
 | cons x l ih =>
  obtain ⟨h1,h2⟩:=ih (fun y hy=>h y (List.mem_cons_of_mem _ hy));refine ⟨?_,?_⟩
  ·show (okW ⟨[],[],x.data.toList⟩ && (true && (Tr.of (l.map txN)).all okW)) = true
   rw [h1]
   have:okW ⟨[],[],x.data.toList⟩ = true:=by
    unfold okW;simp only [List.length_nil,List.all_nil,Bool.and_eq_true,decide_eq_true_eq];exact ⟨⟨Nat.zero_le _,trivial⟩,by rw [toList_length];exact Nat.le_trans (h x (List.mem_cons_self ..)) (by decide)⟩
   rw [this];rfl
  ·show 1 + 0 + (Tr.of (l.map txN)).count = (x :: l).length
   rw [h2,List.length_cons];omega
theorem allV_take (l:List ByteArray) (k:Nat) (h:k < l.length):allV (l.take (k + 1)) = allV (l.take k) ++ validL (l[k]'h).data.toList:=by
 unfold allV;rw [List.take_succ_eq_append_getElem h,List.map_append,List.flatten_append];simp
theorem allV_len (l:List ByteArray) (h:∀ x ∈ l,x.size <= 300):(allV l).length <= 900 * l.length:=by
 induction l with
 | nil=>exact Nat.le_refl _
 | cons x l ih =>
  have h1:=ih (fun y hy=>h y (List.mem_cons_of_mem _ hy));have h2:=validL_length x.data.toList;have h3:=h x (List.mem_cons_self ..);rw [toList_length] at h2;show (validL x.data.toList ++ allV l).length <= 900 * (l.length + 1)
  rw [List.length_append];omega
theorem KRow.bare {C:Nat -> Prop} {B:Nat} {v:Value} {ks:List KidV} {w:World} (h:KRow C B v ks w) (hb:∀ q ∈ ks,q.1.1.attrs = [] /\ q.1.2 = .nil):KRow (fun _=>False) B v ks w :=
 ⟨h.row,fun q hq=>by
  obtain ⟨h1,h2⟩:=h.each q hq;obtain ⟨e1,e2⟩:=hb q hq;refine ⟨⟨h1.1,fun a n c _ hl=>absurd e1 hl⟩,?_⟩;rcases h2 with h2 | ⟨a,cap,x1,x2,x3,_⟩
  ·exact .inl h2
  ·exact .inr ⟨a,cap,x1,x2,x3,by rw [e2];trivial⟩,fun g _ hf=>hf⟩
theorem texts_bare {ks:List KidV} {l:List ByteArray} (h:ks.map Prod.fst = l.map txN):∀ q ∈ ks,q.1.1.attrs = [] /\ q.1.2 = .nil:=fun q hq=>by
 have:q.1 ∈ l.map txN:=by rw [<- h];exact List.mem_map.2 ⟨q,hq,rfl⟩
 obtain ⟨x,_,e⟩:=List.mem_map.1 this;rw [<- e];exact ⟨rfl,rfl⟩
theorem lit_node (w:World) (X:ByteArray):NodesC (fun x=>x = w.heap.size) (w.alloc (.cells #[.string ⟨#[]⟩,.slice none 0 0,.string X,.slice none 0 0] 36)) (.slice (some ⟨w.heap.size,0,none⟩) 1 1) (.cons ⟨[],[],X.data.toList⟩ .nil .nil):=by
 have hn:(w.alloc (.cells #[.string ⟨#[]⟩,.slice none 0 0,.string X,.slice none 0 0] 36)).heap[w.heap.size]? = some (.cells #[.string ⟨#[]⟩,.slice none 0 0,.string X,.slice none 0 0] 36 (0,0)):=heap_alloc_new w _;refine .inr ⟨⟨w.heap.size,0,none⟩,1,rfl,Nat.le_refl _,by unfold maxLen;omega,?_⟩;refine ⟨rfl,?_,?_,⟨.slice none 0 0,?_,.inl ⟨rfl,rfl⟩,fun a n c e=>by cases e⟩,⟨.slice none 0 0,?_,.inl ⟨rfl,rfl⟩⟩,trivial⟩
 ·show World.cell? _ ⟨w.heap.size,0,none⟩ = _
  rw [Lib.cell_of_heap hn];rfl
 ·show World.cell? _ ⟨w.heap.size,2,none⟩ = some (.string (str X.data.toList))
  rw [Lib.cell_of_heap hn,str_of];rfl
 ·show World.cell? _ ⟨w.heap.size,1,none⟩ = _
  rw [Lib.cell_of_heap hn];rfl
 ·show World.cell? _ ⟨w.heap.size,3,none⟩ = _
  rw [Lib.cell_of_heap hn];rfl
def TxtI (l:List ByteArray) (k:Nat) (u:Value) (W wr:World):Prop :=
  ∃ ks,KRow (fun _=>False) W.heap.size u ks wr /\ ks.map Prod.fst = (l.take k).map txN /\ Below W.heap.size W wr /\ ∀ x ∈ l.take k,x.size <= 300
set_option maxHeartbeats 16000000 in
theorem law_WashText (r s q : Bool) (v : Value) (l : List ByteArray) {w : World} (hl : StrsIn w v l) (hE : EnvH w) :
    Calls Tryz.prog 4 #[.agg #[.bool r, .bool s, .bool q], v] w fun e w' => e = .returned (.bool true) ∧ Below w.heap.size w w' := by
  obtain ⟨LA, LC, rfl⟩ := hl.form
  obtain ⟨W, hW⟩ : ∃ W, W = w.alloc (.cells #[.bool r, .bool s, .bool q] 23) := ⟨_, rfl⟩
  have hb : Below w.heap.size w W := by rw [hW]; exact below_one w _
  have hkk : W.heap[w.heap.size]? = some (.cells #[.bool r, .bool s, .bool q] 23 (0, 0)) := by rw [hW]; exact heap_alloc_new w _
  have HLV : Hid (∀ w', Below W.heap.size W w' → Calls Tryz.prog 7 #[] w' fun e w'' => e = .returned (.bool true) ∧ Below w'.heap.size w' w'') := hide (fun w' hb' => live19_any w' ((hE.kept hb).kept hb'))
  have HCU : Hid (∀ w', Below W.heap.size W w' → Below w.heap.size w w') := hide (fun w' hb' => wash_two hb hb')
  have HI : Hid (∀ w', Below W.heap.size W w' → StrsIn w' (.slice LA l.length LC) l ∧ EnvH w' ∧ w'.cell? ⟨w.heap.size, 0, none⟩ = some (.bool r) ∧ w'.cell? ⟨w.heap.size, 1, none⟩ = some (.bool s) ∧ w'.cell? ⟨w.heap.size, 2, none⟩ = some (.bool q)) := hide (fun w' hb' => by
    have k1 := (hb'.block _ (lt_of_block hkk)).trans hkk
    exact ⟨(hl.kept hb).kept hb', (hE.kept hb).kept hb', by rw [Lib.cell_of_heap k1]; rfl, by rw [Lib.cell_of_heap k1]; rfl, by rw [Lib.cell_of_heap k1]; rfl⟩)
  have HW := hide hW
  have HR := hide (Below.refl W.heap.size W)
  have hlm : l.length ≤ maxLen := by
    rcases hl with ⟨_, rfl⟩ | ⟨a, cap, _, h2, h3, _⟩
    · exact Nat.zero_le _
    · exact Nat.le_trans h2 h3
  unfold maxLen at hlm
  clear hl hE hb hkk hW
  by_cases h40 : l.length ≤ 40
  · have z0 : decide ((40 : Int) < l.length) = false := decide_eq_false (by omega)
    have HT0 : Hid (TxtI l 0 (.slice none 0 0) W W) := hide ⟨[], KRow.nil _ _ _, rfl, HR.out, fun x hx => by cases hx⟩
    go_enter Tryz.func4, Tryz.ntmps4
    go_wp2_with fail
    rw [← HW.out]
    clear z0 hlm
    go_loopw [5, 6, 7] (fun u5 u6 iv wr => ∃ k : Nat, k ≤ l.length ∧ iv = .int .i64 k ∧ u6 = .string (str (allV (l.take k))) ∧ Hid (TxtI l k u5 W wr)) (fun _ _ iv _ => l.length - (intOf iv).toNat)
    case atStart => exact ⟨0, Nat.zero_le _, rfl, rfl, HT0⟩
    case round =>
      obtain ⟨k, hk, rfl, rfl, HT⟩ := hrel
      obtain ⟨ks, hkr, hks, hbw, hsz⟩ := HT.out
      obtain ⟨UA, UC, rfl, _⟩ := hkr.slice
      have HKR := hide hkr
      have HKS := hide hks
      have HBW := hide hbw
      have HSZ := hide hsz
      have hkl : ks.length = k := by
        have := congrArg List.length hks
        rw [List.length_map, List.length_map, List.length_take] at this; omega
      have HKL := hide hkl
      obtain ⟨S6, hS6⟩ : ∃ S6, S6 = str (allV (l.take k)) := ⟨_, rfl⟩
      rw [← hS6]
      have HS6 := hide hS6
      obtain ⟨hst, _, c0, c1, c2⟩ := HI.out wr hbw
      by_cases hlt : k < l.length
      · obtain ⟨a, hA, hc⟩ : ∃ a, LA = some a ∧ wr.cell? (a.add k) = some (.string (l[k]'hlt)) := by
          rcases hst with ⟨_, h0⟩ | ⟨a, cap, h1, _, _, h4, _⟩
          · rw [h0] at hlt; cases hlt
          · injection h1 with h1 _ _
            exact ⟨a, h1, h4 k hlt⟩
        subst hA
        obtain ⟨X, hX⟩ : ∃ X, X = l[k]'hlt := ⟨_, rfl⟩
        rw [← hX] at hc
        have HX := hide hX
        have HLT := hide hlt
        clear hkr hks hbw hsz hkl hst hS6 hX c0 c1 c2 HT
        by_cases h3 : X.size ≤ 300
        · have z3 : decide ((300 : Int) < X.size) = false := decide_eq_false (by omega)
          have HKA : Hid (KRow (fun x => x = wr.heap.size) W.heap.size (.slice UA ks.length UC) ks (wr.alloc (.cells #[.string ⟨#[]⟩, .slice none 0 0, .string X, .slice none 0 0] 36))) := hide ((HKR.out.kept (fun _ hf => hf.elim) (below_one wr _)).widen (fun _ hf => hf.elim) (fun g hg e => by have := (HKR.out.row.lt g hg).2; omega))
          have hsl : S6.size ≤ 36000 := by
            rw [HS6.out, str_size]
            have := allV_len (l.take k) HSZ.out
            have h2 : (l.take k).length ≤ 40 := by rw [List.length_take]; omega
            omega
          have hvl : (str (validL X.data.toList)).size ≤ 900 := by
            rw [str_size]
            have := validL_length X.data.toList
            rw [toList_length] at this; omega
          obtain ⟨V, hV⟩ : ∃ V, V = str (validL X.data.toList) := ⟨_, rfl⟩
          rw [← hV] at hvl
          have q1 : ¬ (9223372036854775807 < S6.size + V.size) := by omega
          have HRV : Hid (∀ w', Calls Tryz.prog 11 #[.string X] w' fun e w'' => e = .returned (.string V) ∧ Below w'.heap.size w' w'') := hide (fun w' => by rw [hV]; exact refValid_any X w' (by omega))
          have HVV := hide hV
          have HX3 := hide h3
          have HSL := hide hsl
          clear hsl hvl hV h3
          go_wp2_with (refine wpList_nodes rfl _ _ rfl (fun x => x = wr.heap.size) W.heap.size (.slice UA ks.length UC) ks rfl HKA.out (fun x e => by rw [World.size_alloc]; omega) (by rw [World.size_alloc]; have := HBW.out.size; omega) (.slice (some ⟨wr.heap.size, 0, none⟩) 1 1) rfl (.cons ⟨[], [], X.data.toList⟩ .nil .nil) (lit_node wr X) (by have := HKL.out; show ks.length + 1 ≤ _; omega) ?_
                       intro v' qs w2 hk2 hqs hg2 hor2
                       obtain ⟨VA, VC, hv2, _⟩ := hk2.slice
                       subst hv2
                       have hb2 : Below W.heap.size W w2 := (HBW.out.trans ((below_one wr _).mono HBW.out.size)).grown hg2 (by rw [World.size_alloc]; have := HBW.out.size; omega) (fun x e => (HKR.out.row.lt x e).1)
                       have hm2 : (ks ++ qs).map Prod.fst = (l.take (k + 1)).map txN := by
                         rw [List.map_append, hqs, HKS.out, List.take_succ_eq_append_getElem HLT.out, List.map_append, ← HX.out]; rfl
                       have hcc : w2.cell? (a.add k) = some (.string X) := by
                         rcases (HI.out w2 hb2).1 with ⟨h0, _⟩ | ⟨a', cap, h1, _, _, h4, _⟩
                         · cases h0
                         · injection h1 with h1 _ _
                           injection h1 with h1
                           subst h1
                           rw [h4 k HLT.out, ← HX.out]
                       have HTN := hide (show TxtI l (k + 1) (.slice VA (ks ++ qs).length VC) W w2 from ⟨_, hk2.bare (texts_bare hm2), hm2, hb2, fun x hx => by
                         rw [List.take_succ_eq_append_getElem HLT.out] at hx
                         rcases List.mem_append.1 hx with hx | hx
                         · exact HSZ.out x hx
                         · obtain rfl := List.mem_singleton.1 hx
                           rw [← HX.out]; exact HX3.out⟩)
                       clear hk2 hqs hg2 hor2 hb2 hm2)
          refine (HRV.out _).mono ?_
          rintro e w3 ⟨rfl, hb3⟩
          have HTM : Hid (TxtI l (k + 1) (.slice VA (ks ++ qs).length VC) W w3) := hide (by
            obtain ⟨ks2, x1, x2, x3, x4⟩ := HTN.out
            exact ⟨ks2, x1.kept (fun _ hf => hf.elim) hb3, x2, x3.trans (hb3.mono x3.size), x4⟩)
          have HSN : Hid (S6 ++ V = str (allV (l.take (k + 1)))) := hide (by
            rw [allV_take l k HLT.out, HS6.out, HVV.out, HX.out]
            apply ext_list
            rw [wash_app, str_toList, str_toList, str_toList])
          clear hb3 hcc
          go_wp2_with fail
          go_roundw
          case rel => exact ⟨k + 1, HLT.out, by go_num, by first | rw [← HSN.out] | (rw [← HSN.out]; rfl), by first | exact HTM | (simpa using HTM)⟩
          case measure => simp [intOf]; have := HLT.out; omega
        · have z3 : decide ((300 : Int) < X.size) = true := decide_eq_true (by omega)
          clear h3
          go_wp2_with fail
          refine (HLV.out _ HBW.out).mono ?_
          rintro e w2 ⟨rfl, hb2⟩
          have HB2 := hide (HCU.out w2 (wash_two HBW.out hb2))
          clear hb2
          go_wp2_with fail
          go_ret
          exact ⟨rfl, HB2.out⟩
      · obtain rfl : k = l.length := by omega
        have hnx : NodesIn wr (.slice UA ks.length UC) (Tr.of (l.map txN)) := by
          have h1 := hkr.nodes (C' := fun b => b < wr.heap.size) (fun _ hf => hf.elim) (fun g hg => (hkr.row.lt g hg).2)
          rw [hks, List.take_length] at h1; exact h1
        rw [List.take_length] at hsz
        obtain ⟨o1, o2⟩ := texts_ok l hsz
        have hcl := washClean_any r s q none [] 0 _ _ wr (FilesIn.nil _) (by decide) (HI.out wr hbw).2.1.2 hnx o1 (by rw [o2]; omega)
        rw [washT_texts] at hcl
        rw [List.take_length] at HS6
        obtain ⟨AV, hAV⟩ : ∃ AV, AV = allV l := ⟨_, rfl⟩
        rw [← hAV] at hcl HS6
        have HCL := hide hcl
        clear hkr hks hbw hsz hst hS6 hkl hnx o1 o2 hcl hAV HT hlt hk
        by_cases hn : AV = []
        · have y1 : S6.toList.isEmpty = true := by rw [bytes_list, HS6.out, str_toList, hn]; rfl
          have y2 : S6 = ⟨#[]⟩ := by rw [HS6.out, hn]; rfl
          rw [if_pos hn] at HCL
          clear hn
          go_wp2_with fail
          refine HCL.out.mono ?_
          rintro e w2 ⟨v2, rfl, hv2, hb2⟩
          obtain ⟨V2A, V2C, hvv⟩ := NodesC.form hv2
          subst hvv
          have HB2 := hide (wash_two HBW.out hb2)
          clear hv2 hb2 c0 c1 c2
          go_wp2_with fail
          refine (HLV.out _ HB2.out).mono ?_
          rintro e w3 ⟨rfl, hb3⟩
          have HB3 := hide (HCU.out w3 (wash_two HB2.out hb3))
          clear hb3
          go_wp2_with fail
          go_ret
          exact ⟨rfl, HB3.out⟩
        · have y1 : S6.toList.isEmpty = false := by
            rw [bytes_list, HS6.out, str_toList]
            cases e : AV with
            | nil => exact absurd e hn
            | cons _ _ => rfl
          rw [if_neg hn] at HCL
          clear hn
          go_wp2_with fail
          refine HCL.out.mono ?_
          rintro e w2 ⟨v2, rfl, hv2, hb2⟩
          obtain ⟨a, cp, u1, u2, hvv, _, _, n0, n1, n2, n3, _, _, _⟩ := nodes_head hv2
          have hvv : v2 = .slice (some a) 1 cp := hvv
          subst hvv
          replace n0 : w2.cell? a = some (.string ⟨#[]⟩) := n0
          rw [← HS6.out] at n2
          replace n2 : w2.cell? { block := a.block, off := a.off + 2 } = some (.string S6) := n2
          have HB2 := hide (wash_two HBW.out hb2)
          clear hv2 hb2 c0 c1 c2 n1 n3
          go_wp2_with fail
          refine (HLV.out _ HB2.out).mono ?_
          rintro e w3 ⟨rfl, hb3⟩
          have HB3 := hide (HCU.out w3 (wash_two HB2.out hb3))
          clear hb3
          go_wp2_with fail
          go_ret
          exact ⟨rfl, HB3.out⟩
  · have z0 : decide ((40 : Int) < l.length) = true := decide_eq_true (by omega)
    go_enter Tryz.func4, Tryz.ntmps4
    go_wp2_with fail
    rw [← HW.out]
    refine (HLV.out _ HR.out).mono ?_
    rintro e w2 ⟨rfl, hb2⟩
    have HB2 := hide (HCU.out w2 hb2)
    clear hb2
    go_wp2_with fail
    go_ret
    exact ⟨rfl, HB2.out⟩
end Go.Proofs.YtmgpmdfmkdhfgaaGreatDoor
