import Derived.Test.YtmgpmdfmkdhfgaaGreatDoorRef19L
import Derived.Test.YtmgpmdfmkdhfgaaGreatDoorWashX
import Derived.Test.YtmgpmdfmkdhfgaaGreatDoorRefValid
import Derived.Test.YtmgpmdfmkdhfgaaGreatDoorBaseQ
import Derived.Deep.RegionHeldLaw
namespace Go.Proofs.YtmgpmdfmkdhfgaaGreatDoor
open Go.RowKit
set_option linter.unusedVariables false
set_option linter.unusedSimpArgs false
set_option maxRecDepth 100000
def okP (h:NdH):Bool:=decide (h.attrs.length <= 1000000) && decide (h.text.length <= 1000000)
def ptx (T:Tr):Nat -> Bool
  | 0=>false
  | k + 1=>match T.list[k]? with
    | some q=>q.1.name.isEmpty
    | none=>false
theorem pure_drop (T:Tr) (k:Nat) (h:NdH) (K:Tr) (hk:T.list[k]? = some (h,K)) (hp:pureT voidW (ptx T k) (Tr.drop k T) = true) :
  nodeB voidW (ptx T k) h K = true /\ pureT voidW (ptx T (k + 1)) (Tr.drop (k + 1) T) = true:=by
 have hlt:k < T.len:=by
  rw [<- Tr.len_list];exact (List.getElem?_eq_some_iff.1 hk).1
 obtain ⟨p,q,e1,e2⟩:=Tr.drop_cons k T hlt;rw [hk] at e2;injection e2 with e2;injection e2 with e2 e3;subst e2 e3;rw [e1] at hp;have hp:(nodeB voidW (ptx T k) h K && pureT voidW h.name.isEmpty (Tr.drop (k + 1) T)) = true:=hp;rw [Bool.and_eq_true] at hp;refine ⟨hp.1,?_⟩
 have:ptx T (k + 1) = h.name.isEmpty:=by
  show (match T.list[k]? with | some q=>q.1.name.isEmpty | none=>false) = _
  rw [hk]
 rw [this];exact hp.2
def PureP (N:Nat):Prop:=∀ (v:Value) (T:Tr) (w:World),T.count < N -> NodesIn w v T -> T.count <= 1000000 -> T.all okP = true -> pureT voidW false T = true ->
    Calls Tryz.prog 9 #[v] w fun e w'=>e = .returned (.bool true) /\ Below w.heap.size w w'
set_option maxHeartbeats 16000000 in
theorem pure_step (N : Nat) (ih : PureP N) : PureP (N + 1) := by
  intro v T w hN hT hc hok hp
  obtain ⟨TA, TC, hv⟩ := NodesC.form hT
  subst hv
  have HIH := hide ih
  have HT := hide hT
  have HOK := hide hok
  have HCN := hide (And.intro hN hc)
  have HP0 : Hid (pureT voidW (ptx T 0) (Tr.drop 0 T) = true) := hide hp
  have HR := hide (Below.refl w.heap.size w)
  have hlm : T.len ≤ 1000000 := Nat.le_trans (Tr.len_count T) hc
  clear ih hT hok hN hc hp
  go_enter Tryz.func9, Tryz.ntmps9
  go_wp2_with fail
  go_loopw [3] (fun iv wr => ∃ k : Nat, k ≤ T.len ∧ iv = .int .i64 k ∧ Hid (Below w.heap.size w wr) ∧ Hid (pureT voidW (ptx T k) (Tr.drop k T) = true)) (fun iv _ => T.len - (intOf iv).toNat)
  case atStart => exact ⟨0, Nat.zero_le _, rfl, HR, HP0⟩
  case round =>
    obtain ⟨k, hk, rfl, HB, HP⟩ := hrel
    by_cases hlt : k < T.len
    · obtain ⟨⟨h, K⟩, hf⟩ : ∃ f, T.list[k]? = some f := ⟨_, List.getElem?_eq_getElem (by rw [Tr.len_list]; exact hlt)⟩
      have hI := NodesIn.kept HT.out HB.out
      obtain ⟨a, d, x, y, z, m, ha, hab, p1, p2, hA, p3, p4, hm, hK⟩ := NodesC.at hI k h K hf
      subst ha
      obtain ⟨hnode, hnext⟩ := pure_drop T k h K hf HP.out
      obtain ⟨hoh, hoK⟩ := Tr.all_at HOK.out hf
      have hKc := Tr.at_count hf
      obtain ⟨X1, hX1⟩ : ∃ X, X = str h.name := ⟨_, rfl⟩
      obtain ⟨Y1, hY1⟩ : ∃ X, X = str h.text := ⟨_, rfl⟩
      rw [← hX1] at p1
      rw [← hY1] at p3
      obtain ⟨W, hW⟩ : ∃ W, W = wr.alloc (.cells #[.string X1, .slice d h.attrs.length y, .string Y1, .slice x m z] 36) := ⟨_, rfl⟩
      have hbW : Below wr.heap.size wr W := by rw [hW]; exact below_one wr _
      have hkk : W.heap[wr.heap.size]? = some (.cells #[.string X1, .slice d h.attrs.length y, .string Y1, .slice x m z] 36 (0, 0)) := by rw [hW]; exact heap_alloc_new wr _
      obtain ⟨nb, hnb⟩ : ∃ nb, nb = wr.heap.size := ⟨_, rfl⟩
      rw [← hnb] at hkk
      have HBW := hide (wash_two HB.out hbW)
      have HC : Hid (∀ w', Below W.heap.size W w' → w'.cell? ⟨nb, 0, none⟩ = some (.string X1) ∧ w'.cell? ⟨nb, 1, none⟩ = some (.slice d h.attrs.length y) ∧ w'.cell? ⟨nb, 2, none⟩ = some (.string Y1) ∧ w'.cell? ⟨nb, 3, none⟩ = some (.slice x m z) ∧ AttrsIn w' (.slice d h.attrs.length y) h.attrs ∧ NodesIn w' (.slice x m z) K ∧ Below w.heap.size w w' ∧ NodesIn w' (.slice (some a) T.len TC) T) := hide (fun w' hb' => by
        have k1 := (hb'.block _ (lt_of_block hkk)).trans hkk
        exact ⟨by rw [Lib.cell_of_heap k1]; rfl, by rw [Lib.cell_of_heap k1]; rfl, by rw [Lib.cell_of_heap k1]; rfl, by rw [Lib.cell_of_heap k1]; rfl, hA.1.kept (wash_two hbW hb'), NodesIn.kept hK (wash_two hbW hb'), HBW.out.trans (hb'.mono HBW.out.size), NodesIn.kept HT.out (wash_two HBW.out hb')⟩)
      have HNX := hide hnext
      have HND := hide hnode
      have HMK := hide hm
      have HLT := hide hlt
      have HKC := hide hKc
      have HWN := hide (And.intro hW hnb)
      have HXN : Hid (X1.data.toList = h.name ∧ Y1.data.toList = h.text) := hide ⟨by rw [hX1, str_toList], by rw [hY1, str_toList]⟩
      have HOH : Hid (h.attrs.length ≤ 1000000 ∧ h.text.length ≤ 1000000) := hide (by unfold okP at hoh; simpa using hoh)
      have HOKK := hide hoK
      have HRW := hide (Below.refl W.heap.size W)
      clear hI hnode hnext hoh hoK hKc hA hK hX1 hY1 hbW hkk hW hnb hab hm
      by_cases hn : h.name = []
      · -- a text
        have q0 : X1.toList.isEmpty = true := by rw [bytes_list, HXN.out.1, hn]; rfl
        have hnd : ptx T k = false ∧ h.text ≠ [] ∧ allWhole h.text = true := by
          have := HND.out
          unfold nodeB at this
          rw [if_pos hn] at this
          simp only [Bool.and_eq_true, Bool.not_eq_true'] at this
          exact ⟨this.1, (fun e => by rw [e] at this; cases this.2.1), this.2.2⟩
        have q1 : Y1.toList.isEmpty = false := by
          rw [bytes_list, HXN.out.2]
          cases e : h.text with
          | nil => exact absurd e hnd.2.1
          | cons _ _ => rfl
        have HRV : Hid (∀ w', Calls Tryz.prog 11 #[.string Y1] w' fun e w'' => e = .returned (.string Y1) ∧ Below w'.heap.size w' w'') := hide (fun w' => by
          have := refValid_any Y1 w' (by rw [← toList_length, HXN.out.2]; have := HOH.out.2; omega)
          rw [HXN.out.2, valid_whole _ hnd.2.2, ← HXN.out.2, str_of] at this
          exact this)
        have hpt := hnd.1
        clear hn hnd
        cases k with
        | zero =>
          clear hpt
          have e0 : a.add (0 * 4) = a := by rw [Nat.zero_mul, Addr.add_zero']
          rw [e0] at p1 p2 p3 p4
          have HS8 : Hid (∀ w', Below W.heap.size W w' → Below W.heap.size W w' ∧ w'.cell? ⟨nb, 2, none⟩ = some (.string Y1)) := hide (fun w' hb' => ⟨hb', (HC.out w' hb').2.2.1⟩)
          obtain ⟨c0, c1, c2, c3, _⟩ := HC.out W HRW.out
          have hrf := HRW.out
          go_wp2_with fail
          rw [← HWN.out.1, ← HWN.out.2]
          go_wp2_with fail
          refine wp_region_held_drew (S := (fun w' => Below W.heap.size W w' ∧ w'.cell? ⟨nb, 2, none⟩ = some (.string Y1))) (by kernel_rfl) ?_ (fun hHeld => ?_)
          · (try dsimp only)
            (first | (with_reducible exact (HS8.out _ (by with_reducible assumption))) | (with_reducible exact (HS8.out _ (Below.drew (by with_reducible assumption)))) | go_keep)
          refine wpAnyH_take (i := 0) (v := ?_) rfl (by kernel_rfl) (by kernel_rfl) (by kernel_rfl) (fun _ _ _ h => h) (Or.inl ⟨by rfl, ?_⟩) (by assumption) ?_
          rotate_left
          · (intro w hSw; (try dsimp only at hSw); (try simp only [List.getElem_toArray, List.getElem_cons_succ, List.getElem_cons_zero]); go_simp; first | done | with_reducible rfl)
          try simp only [Act.put, List.setIfInBounds_toArray, List.set_cons_zero, List.set_cons_succ, List.getElem_toArray, List.getElem_cons_succ, List.getElem_cons_zero]
          refine wpAnyH_take (i := 1) (v := ?_) rfl (by kernel_rfl) (by kernel_rfl) (by kernel_rfl) (fun _ _ _ h => h) (Or.inl ⟨by rfl, ?_⟩) (by assumption) ?_
          rotate_left
          · (intro w hSw; (try dsimp only at hSw); (try simp only [List.getElem_toArray, List.getElem_cons_succ, List.getElem_cons_zero]); go_simp; first | done | with_reducible rfl)
          try simp only [Act.put, List.setIfInBounds_toArray, List.set_cons_zero, List.set_cons_succ, List.getElem_toArray, List.getElem_cons_succ, List.getElem_cons_zero]
          refine wpAnyH_take (i := 2) (v := ?_) rfl (by kernel_rfl) (by kernel_rfl) (by kernel_rfl) (fun _ _ _ h => h) (Or.inl ⟨by rfl, ?_⟩) (by assumption) ?_
          rotate_left
          · (intro w hSw; (try dsimp only at hSw); (try simp only [List.getElem_toArray, List.getElem_cons_succ, List.getElem_cons_zero]); go_simp; first | done | with_reducible rfl)
          try simp only [Act.put, List.setIfInBounds_toArray, List.set_cons_zero, List.set_cons_succ, List.getElem_toArray, List.getElem_cons_succ, List.getElem_cons_zero]
          refine wpAnyH_take (i := 3) (v := ?_) rfl (by kernel_rfl) (by kernel_rfl) (by kernel_rfl) (fun _ _ _ h => h) (Or.inl ⟨by rfl, ?_⟩) (by assumption) ?_
          rotate_left
          · (intro w hSw; (try dsimp only at hSw); (try simp only [List.getElem_toArray, List.getElem_cons_succ, List.getElem_cons_zero]); go_simp; first | done | with_reducible rfl)
          try simp only [Act.put, List.setIfInBounds_toArray, List.set_cons_zero, List.set_cons_succ, List.getElem_toArray, List.getElem_cons_succ, List.getElem_cons_zero]
          refine wpAnyH_take (i := 4) (v := ?_) rfl (by kernel_rfl) (by kernel_rfl) (by kernel_rfl) (fun _ _ _ h => h) (Or.inl ⟨by rfl, ?_⟩) (by assumption) ?_
          rotate_left
          · (intro w hSw; (try dsimp only at hSw); (try simp only [List.getElem_toArray, List.getElem_cons_succ, List.getElem_cons_zero]); go_simp; first | done | with_reducible rfl)
          try simp only [Act.put, List.setIfInBounds_toArray, List.set_cons_zero, List.set_cons_succ, List.getElem_toArray, List.getElem_cons_succ, List.getElem_cons_zero]
          refine wpAnyH_take (i := 5) (v := ?_) rfl (by kernel_rfl) (by kernel_rfl) (by kernel_rfl) (fun _ _ _ h => h) (Or.inl ⟨by rfl, ?_⟩) (by assumption) ?_
          rotate_left
          · (intro w hSw; (try dsimp only at hSw); (try simp only [List.getElem_toArray, List.getElem_cons_succ, List.getElem_cons_zero]); go_simp; first | done | with_reducible rfl)
          try simp only [Act.put, List.setIfInBounds_toArray, List.set_cons_zero, List.set_cons_succ, List.getElem_toArray, List.getElem_cons_succ, List.getElem_cons_zero]
          refine wpAnyH_take (i := 7) (v := ?_) rfl (by kernel_rfl) (by kernel_rfl) (by kernel_rfl) (fun _ _ _ h => h) (Or.inl ⟨by rfl, ?_⟩) (by assumption) ?_
          rotate_left
          · (intro w hSw; (try dsimp only at hSw); (try simp only [List.getElem_toArray, List.getElem_cons_succ, List.getElem_cons_zero]); go_simp; first | done | with_reducible rfl)
          try simp only [Act.put, List.setIfInBounds_toArray, List.set_cons_zero, List.set_cons_succ, List.getElem_toArray, List.getElem_cons_succ, List.getElem_cons_zero]
          refine wpAnyH_take (i := 8) (v := ?_) rfl (by kernel_rfl) (by kernel_rfl) (by kernel_rfl) (fun _ _ _ h => h) (Or.inl ⟨by rfl, ?_⟩) (by assumption) ?_
          rotate_left
          · (intro w hSw; (try dsimp only at hSw); (try simp only [List.getElem_toArray, List.getElem_cons_succ, List.getElem_cons_zero]); go_simp; first | done | with_reducible rfl)
          try simp only [Act.put, List.setIfInBounds_toArray, List.set_cons_zero, List.set_cons_succ, List.getElem_toArray, List.getElem_cons_succ, List.getElem_cons_zero]
          refine wpAnyH_ready (rs := [6]) (by kernel_rfl) (by simp) ?_
          refine AllReadyH.cons rfl (fun K hK => ?_) AllReadyH.nil
          try simp only [List.getElem_toArray, List.getElem_cons_succ, List.getElem_cons_zero]
          go_simp
          go_at_call 11
          refine (HRV.out _).mono ?_
          rintro e wv ⟨rfl, hbv⟩
          have hbn : Below W.heap.size W wv := wash_two (Below.drew hrf) hbv
          have HEND := hide (HC.out wv hbn).2.2.2.2.2.2.1
          clear hbv
          go_wp2_with fail
          refine hK.out _ _ ?_ (fun hHeld => ?_)
          · (try dsimp only)
            (first | (with_reducible exact (HS8.out _ (by with_reducible assumption))) | (with_reducible exact (HS8.out _ (Below.drew (by with_reducible assumption)))) | go_keep)
          clear hK K
          try simp only [Act.put, List.setIfInBounds_toArray, List.set_cons_zero, List.set_cons_succ, List.getElem_toArray, List.getElem_cons_succ, List.getElem_cons_zero]
          refine wpAnyH_take (i := 9) (v := ?_) rfl (by kernel_rfl) (by kernel_rfl) (by kernel_rfl) (fun _ _ _ h => h) (Or.inl ⟨by rfl, ?_⟩) (by assumption) ?_
          rotate_left
          · (intro w hSw; (try dsimp only at hSw); (try simp only [List.getElem_toArray, List.getElem_cons_succ, List.getElem_cons_zero]); go_simp; first | done | with_reducible rfl)
          try simp only [Act.put, List.setIfInBounds_toArray, List.set_cons_zero, List.set_cons_succ, List.getElem_toArray, List.getElem_cons_succ, List.getElem_cons_zero]
          refine wpAnyH_take (i := 10) (v := ?_) rfl (by kernel_rfl) (by kernel_rfl) (by kernel_rfl) (fun _ _ _ h => h) (Or.inl ⟨by rfl, ?_⟩) (by assumption) ?_
          rotate_left
          · (intro w hSw; (try dsimp only at hSw); (try simp only [List.getElem_toArray, List.getElem_cons_succ, List.getElem_cons_zero]); go_simp; first | done | with_reducible rfl)
          try simp only [Act.put, List.setIfInBounds_toArray, List.set_cons_zero, List.set_cons_succ, List.getElem_toArray, List.getElem_cons_succ, List.getElem_cons_zero]
          refine wpAnyH_take (i := 11) (v := ?_) rfl (by kernel_rfl) (by kernel_rfl) (by kernel_rfl) (fun _ _ _ h => h) (Or.inl ⟨by rfl, ?_⟩) (by assumption) ?_
          rotate_left
          · (intro w hSw; (try dsimp only at hSw); (try simp only [List.getElem_toArray, List.getElem_cons_succ, List.getElem_cons_zero]); go_simp; first | done | with_reducible rfl)
          try simp only [Act.put, List.setIfInBounds_toArray, List.set_cons_zero, List.set_cons_succ, List.getElem_toArray, List.getElem_cons_succ, List.getElem_cons_zero]
          refine wpAnyH_take (i := 12) (v := ?_) rfl (by kernel_rfl) (by kernel_rfl) (by kernel_rfl) (fun _ _ _ h => h) (Or.inl ⟨by rfl, ?_⟩) (by assumption) ?_
          rotate_left
          · (intro w hSw; (try dsimp only at hSw); (try simp only [List.getElem_toArray, List.getElem_cons_succ, List.getElem_cons_zero]); go_simp; first | done | with_reducible rfl)
          try simp only [Act.put, List.setIfInBounds_toArray, List.set_cons_zero, List.set_cons_succ, List.getElem_toArray, List.getElem_cons_succ, List.getElem_cons_zero]
          refine wpAnyH_take (i := 13) (v := ?_) rfl (by kernel_rfl) (by kernel_rfl) (by kernel_rfl) (fun _ _ _ h => h) (Or.inl ⟨by rfl, ?_⟩) (by assumption) ?_
          rotate_left
          · (intro w hSw; (try dsimp only at hSw); (try simp only [List.getElem_toArray, List.getElem_cons_succ, List.getElem_cons_zero]); go_simp; first | done | with_reducible rfl)
          try simp only [Act.put, List.setIfInBounds_toArray, List.set_cons_zero, List.set_cons_succ, List.getElem_toArray, List.getElem_cons_succ, List.getElem_cons_zero]
          refine wpAnyH_take (i := 14) (v := ?_) rfl (by kernel_rfl) (by kernel_rfl) (by kernel_rfl) (fun _ _ _ h => h) (Or.inl ⟨by rfl, ?_⟩) (by assumption) ?_
          rotate_left
          · (intro w hSw; (try dsimp only at hSw); (try simp only [List.getElem_toArray, List.getElem_cons_succ, List.getElem_cons_zero]); go_simp; first | done | with_reducible rfl)
          try simp only [Act.put, List.setIfInBounds_toArray, List.set_cons_zero, List.set_cons_succ, List.getElem_toArray, List.getElem_cons_succ, List.getElem_cons_zero]
          refine wpAnyH_take (i := 15) (v := undef) rfl (by kernel_rfl) (by kernel_rfl) (by kernel_rfl) (fun _ _ _ h => h) (Or.inr ⟨by rfl, rfl⟩) (by assumption) ?_
          try simp only [Act.put, List.setIfInBounds_toArray, List.set_cons_zero, List.set_cons_succ, List.getElem_toArray, List.getElem_cons_succ, List.getElem_cons_zero]
          refine wpAnyH_take (i := 16) (v := undef) rfl (by kernel_rfl) (by kernel_rfl) (by kernel_rfl) (fun _ _ _ h => h) (Or.inr ⟨by rfl, rfl⟩) (by assumption) ?_
          try simp only [Act.put, List.setIfInBounds_toArray, List.set_cons_zero, List.set_cons_succ, List.getElem_toArray, List.getElem_cons_succ, List.getElem_cons_zero]
          refine wpAnyH_take (i := 17) (v := undef) rfl (by kernel_rfl) (by kernel_rfl) (by kernel_rfl) (fun _ _ _ h => h) (Or.inr ⟨by rfl, rfl⟩) (by assumption) ?_
          try simp only [Act.put, List.setIfInBounds_toArray, List.set_cons_zero, List.set_cons_succ, List.getElem_toArray, List.getElem_cons_succ, List.getElem_cons_zero]
          refine wpAnyH_take (i := 18) (v := undef) rfl (by kernel_rfl) (by kernel_rfl) (by kernel_rfl) (fun _ _ _ h => h) (Or.inr ⟨by rfl, rfl⟩) (by assumption) ?_
          try simp only [Act.put, List.setIfInBounds_toArray, List.set_cons_zero, List.set_cons_succ, List.getElem_toArray, List.getElem_cons_succ, List.getElem_cons_zero]
          refine wpAnyH_take (i := 19) (v := undef) rfl (by kernel_rfl) (by kernel_rfl) (by kernel_rfl) (fun _ _ _ h => h) (Or.inr ⟨by rfl, rfl⟩) (by assumption) ?_
          try simp only [Act.put, List.setIfInBounds_toArray, List.set_cons_zero, List.set_cons_succ, List.getElem_toArray, List.getElem_cons_succ, List.getElem_cons_zero]
          refine wpAnyH_take (i := 20) (v := undef) rfl (by kernel_rfl) (by kernel_rfl) (by kernel_rfl) (fun _ _ _ h => h) (Or.inr ⟨by rfl, rfl⟩) (by assumption) ?_
          try simp only [Act.put, List.setIfInBounds_toArray, List.set_cons_zero, List.set_cons_succ, List.getElem_toArray, List.getElem_cons_succ, List.getElem_cons_zero]
          refine wpAnyH_take (i := 21) (v := undef) rfl (by kernel_rfl) (by kernel_rfl) (by kernel_rfl) (fun _ _ _ h => h) (Or.inr ⟨by rfl, rfl⟩) (by assumption) ?_
          try simp only [Act.put, List.setIfInBounds_toArray, List.set_cons_zero, List.set_cons_succ, List.getElem_toArray, List.getElem_cons_succ, List.getElem_cons_zero]
          refine wpAnyH_take (i := 22) (v := ?_) rfl (by kernel_rfl) (by kernel_rfl) (by kernel_rfl) (fun _ _ _ h => h) (Or.inl ⟨by rfl, ?_⟩) (by assumption) ?_
          rotate_left
          · (intro w hSw; (try dsimp only at hSw); (try simp only [List.getElem_toArray, List.getElem_cons_succ, List.getElem_cons_zero]); go_simp; first | done | with_reducible rfl)
          try simp only [Act.put, List.setIfInBounds_toArray, List.set_cons_zero, List.set_cons_succ, List.getElem_toArray, List.getElem_cons_succ, List.getElem_cons_zero]
          refine wpAnyH_take (i := 23) (v := ?_) rfl (by kernel_rfl) (by kernel_rfl) (by kernel_rfl) (fun _ _ _ h => h) (Or.inl ⟨by rfl, ?_⟩) (by assumption) ?_
          rotate_left
          · (intro w hSw; (try dsimp only at hSw); (try simp only [List.getElem_toArray, List.getElem_cons_succ, List.getElem_cons_zero]); go_simp; first | done | with_reducible rfl)
          try simp only [Act.put, List.setIfInBounds_toArray, List.set_cons_zero, List.set_cons_succ, List.getElem_toArray, List.getElem_cons_succ, List.getElem_cons_zero]
          refine wpAnyH_done (by kernel_rfl) ?_ _
          all_goals
            go_wp2_with fail
            go_roundw
            case rel => exact ⟨0 + 1, HLT.out, by go_num, HEND, HNX.out⟩
            case measure => simp [intOf]; have := HLT.out; omega
        | succ k =>
          obtain ⟨⟨h0, K0⟩, hf0⟩ : ∃ f, T.list[k]? = some f := ⟨_, List.getElem?_eq_getElem (by rw [Tr.len_list]; have := HLT.out; omega)⟩
          have hp0 : h0.name.isEmpty = false := by
            have h1 : (match T.list[k]? with | some q => q.1.name.isEmpty | none => false) = false := hpt
            rw [hf0] at h1; exact h1
          obtain ⟨P0, hP0⟩ : ∃ P0, P0 = str h0.name := ⟨_, rfl⟩
          have q2 : P0.toList.isEmpty = false := by rw [bytes_list, hP0, str_toList]; exact hp0
          have HPC : Hid (∀ w', Below W.heap.size W w' → w'.cell? (a.add (k * 4)) = some (.string P0)) := hide (fun w' hb' => by
            obtain ⟨a', _, _, _, _, _, ha', _, r1, _⟩ := NodesC.at (HC.out w' hb').2.2.2.2.2.2.2 k h0 K0 hf0
            injection ha' with ha'
            subst ha'
            rw [hP0]; exact r1)
          have t9 : wrap64 (k : Int) = (k : Int) := by unfold wrap64; omega
          have t8 : IntKind.i64.wrap (k : Int) = (k : Int) := IntWalk.i64_in _ (by omega)
          have t7 : (k : Int) < (T.len : Int) := by have := HLT.out; omega
          have t6 : (0 : Int) ≤ (k : Int) := Int.natCast_nonneg _
          have t5 : k < T.len := by have := HLT.out; omega
          have t4 : (0 : Int) < (k : Int) + 1 := by omega
          have t3 : decide ((0 : Int) < (k : Int) + 1) = true := decide_eq_true t4
          clear hf0 hp0 hP0 hpt
          have HS8 : Hid (∀ w', Below W.heap.size W w' → Below W.heap.size W w' ∧ w'.cell? ⟨nb, 2, none⟩ = some (.string Y1) ∧ w'.cell? (a.add (k * 4)) = some (.string P0)) := hide (fun w' hb' => ⟨hb', (HC.out w' hb').2.2.1, HPC.out w' hb'⟩)
          obtain ⟨c0, c1, c2, c3, _⟩ := HC.out W HRW.out
          have hrf := HRW.out
          go_wp2_with fail
          rw [← HWN.out.1, ← HWN.out.2]
          go_wp2_with fail
          first | (go_region_held_law (fun w' => Below W.heap.size W w' ∧ w'.cell? ⟨nb, 2, none⟩ = some (.string Y1) ∧ w'.cell? (a.add (k * 4)) = some (.string P0))
            (first | (with_reducible exact (HS8.out _ (by with_reducible assumption))) | (with_reducible exact (HS8.out _ (Below.drew (by with_reducible assumption)))) | go_keep)
            (first
            | (go_at_call 11; (with_reducible refine (HRV.out _).mono ?_); rintro e wv ⟨rfl, hbv⟩
               have hbn : Below W.heap.size W wv := wash_two (by first | with_reducible assumption | with_reducible exact Below.drew (by with_reducible assumption)) hbv
               have HEND := hide (HC.out wv hbn).2.2.2.2.2.2.1
               clear hbv))) | fail
          all_goals
            go_wp2_with fail
            go_roundw
            case rel => exact ⟨k + 1 + 1, HLT.out, by go_num, HEND, HNX.out⟩
            case measure => simp [intOf]; have := HLT.out; omega
      · -- an element
        have q0 : X1.toList.isEmpty = false := by
          rw [bytes_list, HXN.out.1]
          cases e : h.name with
          | nil => exact absurd e hn
          | cons _ _ => rfl
        have hnd : elemN h.name = 2 ∧ h.text = [] ∧ (voidW h.name = true → K.len = 0) ∧ h.attrs.all (okA h.name) = true ∧ pureT voidW false K = true := by
          have := HND.out
          unfold nodeB at this
          rw [if_neg hn] at this
          simp only [Bool.and_eq_true, decide_eq_true_eq, List.isEmpty_iff, Bool.or_eq_true, Bool.not_eq_true', beq_iff_eq] at this
          exact ⟨this.1, this.2.1, fun e => by
            rcases this.2.2.1 with e2 | e2
            · rw [e] at e2; cases e2
            · exact e2, this.2.2.2.1, this.2.2.2.2⟩
        obtain ⟨n1, n2, n3, n4, n5⟩ := hnd
        have q1 : Y1.toList.isEmpty = true := by rw [bytes_list, HXN.out.2, n2]; rfl
        have HEN : Hid (∀ w', Calls Tryz.prog 12 #[.string X1] w' fun e w'' => e = .returned (.int .i64 2) ∧ w' = w'') := hide (fun w' => by
          have := element_any X1 w'
          rw [HXN.out.1, n1] at this
          exact this)
        have HVD : Hid (∀ w', Calls Tryz.prog 18 #[.string X1] w' fun e w'' => e = .returned (.bool (voidW h.name)) ∧ w' = w'') := hide (fun w' => by
          have := void14_any X1 w'
          rw [HXN.out.1] at this; exact this)
        have HPK : Hid (∀ w', Below W.heap.size W w' → Calls Tryz.prog 9 #[.slice x m z] w' fun e w'' => e = .returned (.bool true) ∧ Below w'.heap.size w' w'') := hide (fun w' hb' =>
          HIH.out _ K w' (by have := HKC.out; have := HCN.out; omega) (HC.out w' hb').2.2.2.2.2.1 (by have := HKC.out; have := HCN.out; omega) HOKK.out n5)
        have HN4 := hide n4
        have hcp : ∃ VW : Bool, VW = voidW h.name ∧ (VW = true → m = 0) := ⟨_, rfl, fun e => by rw [HMK.out, n3 e]⟩
        obtain ⟨VW, hVW, hVW2⟩ := hcp
        rw [← hVW] at HVD
        obtain ⟨c0, c1, c2, c3, _⟩ := HC.out W HRW.out
        clear n1 n2 n3 n4 n5 hn hVW
        have main : ∀ w1, Below W.heap.size W w1 → Hid (Below W.heap.size W w1) := fun w1 hb => hide hb
        cases VW
        all_goals
          first
            | (obtain rfl := hVW2 rfl)
            | skip
          clear hVW2
          go_wp2_with fail
          rw [← HWN.out.1, ← HWN.out.2]
          go_wp2_with fail
          refine (HEN.out _).mono ?_
          rintro e w0 ⟨rfl, rfl⟩
          go_wp2_with fail
          refine (HVD.out _).mono ?_
          rintro e w0 ⟨rfl, rfl⟩
          go_wp2_with fail
          refine (HPK.out _ HRW.out).mono ?_
          rintro e w1 ⟨rfl, hb1⟩
          have HB1 := hide hb1
          clear hb1 c0 c1 c2 c3
          go_wp2_with fail
          go_loopw [5] (fun iv wr => ∃ j : Nat, j ≤ h.attrs.length ∧ iv = .int .i64 j ∧ Hid (Below W.heap.size W wr)) (fun iv _ => h.attrs.length - (intOf iv).toNat)
          case atStart => exact ⟨0, Nat.zero_le _, rfl, HB1⟩
          case round =>
            obtain ⟨j, hj, rfl, HB2⟩ := hrel
            obtain ⟨c0, c1, c2, c3, hat, _⟩ := HC.out wr HB2.out
            by_cases hlj : j < h.attrs.length
            · obtain ⟨a2, ha2, e0, e1⟩ := hat.at j _ (List.getElem?_eq_getElem hlj)
              subst ha2
              obtain ⟨f, hf2⟩ : ∃ f, f = h.attrs[j]'hlj := ⟨_, rfl⟩
              rw [← hf2] at e0 e1
              have hok : okA h.name f = true := by
                have := List.all_eq_true.1 HN4.out f (by rw [hf2]; exact List.getElem_mem hlj)
                exact this
              obtain ⟨P1, hP1⟩ : ∃ P1, P1 = str f.1 := ⟨_, rfl⟩
              obtain ⟨P2, hP2⟩ : ∃ P2, P2 = str f.2 := ⟨_, rfl⟩
              rw [← hP1] at e0
              rw [← hP2] at e1
              have HPP : Hid (P1.data.toList = f.1 ∧ P2.data.toList = f.2) := hide ⟨by rw [hP1, str_toList], by rw [hP2, str_toList]⟩
              have HLJ := hide hlj
              have hjb : h.attrs.length ≤ 1000000 := HOH.out.1
              have i1 : (j : Int) < (h.attrs.length : Int) := by omega
              have i2 : (0 : Int) ≤ (j : Int) := Int.natCast_nonneg _
              clear hat hf2 hP1 hP2
              by_cases hna : h.name = wn_a
              · have x1 : (X1.toList == [97]) = true := by rw [bytes_list, HXN.out.1, hna]; rfl
                by_cases hfr : f = (wn_rel, wn_stranger)
                · have y1 : P1 = ⟨#[114, 101, 108]⟩ := by
                    apply ext_list
                    rw [HPP.out.1, hfr]; rfl
                  have y2 : P2 = ⟨#[110, 111, 111, 112, 101, 110, 101, 114, 32, 110, 111, 114, 101, 102, 101, 114, 114, 101, 114]⟩ := by
                    apply ext_list
                    rw [HPP.out.2, hfr]; rfl
                  clear hna hfr hok HPP
                  subst y1 y2
                  go_wp2_with fail
                  go_quiet (fail)
                  have HB3 : Hid (Below W.heap.size W (wr.drewN nq)) := hide (HB2.out.trans ⟨rfl, rfl, rfl, Nat.le_refl _, fun _ _ => rfl⟩)
                  go_wp2_with fail
                  go_roundw
                  case rel => exact ⟨j + 1, HLJ.out, by go_num, HB3⟩
                  case measure => simp [intOf]; have := HLJ.out; omega
                · have hatt : attrB h.name f.1 = true := by
                    unfold okA at hok
                    rw [decide_eq_false hfr] at hok
                    simpa using hok
                  have hne : ¬ (f.1 = wn_rel ∧ f.2 = wn_stranger) := fun e => hfr (Prod.ext e.1 e.2)
                  have y1 : (P1.toList == [114, 101, 108]) = decide (f.1 = wn_rel) := by rw [bytes_list, HPP.out.1]; exact beq_dec _ _
                  have y2 : (P2.toList == [110, 111, 111, 112, 101, 110, 101, 114, 32, 110, 111, 114, 101, 102, 101, 114, 114, 101, 114]) = decide (f.2 = wn_stranger) := by rw [bytes_list, HPP.out.2]; exact beq_dec _ _
                  clear hna hok hfr
                  cases d1 : decide (f.1 = wn_rel) with
                  | false =>
                    rw [d1] at y1
                    clear y2 hne d1
                    have HAT : Hid (∀ nn, Calls Tryz.prog 19 #[.string X1, .string P1] (wr.drewN nn) fun e w'' => e = .returned (.bool true) ∧ w'' = wr.drewN nn) := hide (fun nn => by
                      have := attr_any X1 P1 (wr.drewN nn)
                      rw [HXN.out.1, HPP.out.1, hatt] at this
                      exact this.mono (fun e w'' he => ⟨he.1, he.2.symm⟩))
                    clear hatt
                    go_wp2_with fail
                    go_quiet ((go_at_call 19; exact Calls.quiet_of_same (HAT.out _)))
                    have HB3 : Hid (Below W.heap.size W (wr.drewN nq)) := hide (HB2.out.trans ⟨rfl, rfl, rfl, Nat.le_refl _, fun _ _ => rfl⟩)
                    go_wp2_with fail
                    go_roundw
                    case rel => exact ⟨j + 1, HLJ.out, by go_num, HB3⟩
                    case measure => simp [intOf]; have := HLJ.out; omega
                  | true =>
                    rw [d1] at y1
                    have d2 : decide (f.2 = wn_stranger) = false := decide_eq_false (fun e => hne ⟨of_decide_eq_true d1, e⟩)
                    rw [d2] at y2
                    clear hne d1 d2
                    have HAT : Hid (∀ nn, Calls Tryz.prog 19 #[.string X1, .string P1] (wr.drewN nn) fun e w'' => e = .returned (.bool true) ∧ w'' = wr.drewN nn) := hide (fun nn => by
                      have := attr_any X1 P1 (wr.drewN nn)
                      rw [HXN.out.1, HPP.out.1, hatt] at this
                      exact this.mono (fun e w'' he => ⟨he.1, he.2.symm⟩))
                    clear hatt
                    go_wp2_with fail
                    go_quiet ((go_at_call 19; exact Calls.quiet_of_same (HAT.out _)))
                    have HB3 : Hid (Below W.heap.size W (wr.drewN nq)) := hide (HB2.out.trans ⟨rfl, rfl, rfl, Nat.le_refl _, fun _ _ => rfl⟩)
                    go_wp2_with fail
                    go_roundw
                    case rel => exact ⟨j + 1, HLJ.out, by go_num, HB3⟩
                    case measure => simp [intOf]; have := HLJ.out; omega
              · have x1 : (X1.toList == [97]) = false := beq_eq_false_iff_ne.2 (by rw [bytes_list, HXN.out.1]; exact hna)
                have hatt : attrB h.name f.1 = true := by
                  unfold okA at hok
                  rw [decide_eq_false hna] at hok
                  simpa using hok
                clear hna hok
                have HAT : Hid (∀ nn, Calls Tryz.prog 19 #[.string X1, .string P1] (wr.drewN nn) fun e w'' => e = .returned (.bool true) ∧ w'' = wr.drewN nn) := hide (fun nn => by
                  have := attr_any X1 P1 (wr.drewN nn)
                  rw [HXN.out.1, HPP.out.1, hatt] at this
                  exact this.mono (fun e w'' he => ⟨he.1, he.2.symm⟩))
                clear hatt
                go_wp2_with fail
                go_quiet ((go_at_call 19; exact Calls.quiet_of_same (HAT.out _)))
                have HB3 : Hid (Below W.heap.size W (wr.drewN nq)) := hide (HB2.out.trans ⟨rfl, rfl, rfl, Nat.le_refl _, fun _ _ => rfl⟩)
                go_wp2_with fail
                go_roundw
                case rel => exact ⟨j + 1, HLJ.out, by go_num, HB3⟩
                case measure => simp [intOf]; have := HLJ.out; omega
            · have HBE := hide (HC.out wr HB2.out).2.2.2.2.2.2.1
              clear hat
              go_wp2_with fail
              go_roundw
              case rel => exact ⟨k + 1, HLT.out, by go_num, HBE, HNX.out⟩
              case measure => simp [intOf]; have := HLT.out; omega
    · go_wp2_with fail
      go_ret
      exact ⟨rfl, HB.out⟩
theorem pure_all:∀ n,PureP n
 | 0=>fun v T w h=>absurd h (Nat.not_lt_zero _)
 | n + 1=>pure_step n (pure_all n)
end Go.Proofs.YtmgpmdfmkdhfgaaGreatDoor
