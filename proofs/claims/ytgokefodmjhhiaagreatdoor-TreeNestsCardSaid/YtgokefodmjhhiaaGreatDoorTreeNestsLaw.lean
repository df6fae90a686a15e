/- WALK of the law TreeNests. No statement is proved here. Own work of the verifier. -/
import Derived.Test.YtgokefodmjhhiaaGreatDoorRef14L
import Derived.Test.YtgokefodmjhhiaaGreatDoorTreeA
import Derived.Test.YtgokefodmjhhiaaGreatDoorRef14W
import Derived.Test.YtgokefodmjhhiaaGreatDoorBaseM
namespace Go.Proofs.YtgokefodmjhhiaaGreatDoor
open Go.RowKit
set_option linter.unusedVariables false
set_option linter.unusedSimpArgs false
set_option maxRecDepth 100000
/-! ### names that are open: a []string that is given -/
def strOps (O : List (List UInt8)) : List ByteArray := O.map str
/-- the []string v holds the names O -/
def OpsIn (w : World) (v : Value) (O : List (List UInt8)) : Prop :=
  (v = .slice none 0 0 ∧ O = []) ∨ ∃ g cap, v = .slice (some ⟨g, 0, none⟩) O.length cap ∧ O.length ≤ cap ∧ cap ≤ maxLen ∧ g < w.heap.size ∧ ∀ (j : Nat) x, O[j]? = some x → w.cell? ⟨g, 0 + j, none⟩ = some (.string (str x))
theorem OpsIn.form {w : World} {v : Value} {O : List (List UInt8)} (h : OpsIn w v O) : ∃ A c, v = .slice A O.length c := by
  rcases h with ⟨rfl, rfl⟩ | ⟨g, cap, rfl, _⟩
  · exact ⟨_, _, rfl⟩
  · exact ⟨_, _, rfl⟩
theorem OpsIn.kept {w w' : World} {v : Value} {O : List (List UInt8)} (h : OpsIn w v O) (hb : Below w.heap.size w w') : OpsIn w' v O := by
  rcases h with h | ⟨g, cap, h1, h2, h3, h4, h5⟩
  · exact .inl h
  · exact .inr ⟨g, cap, h1, h2, h3, Nat.lt_of_lt_of_le h4 hb.size, fun j x hj => (World.cell?_of_block (hb.block g h4)).trans (h5 j x hj)⟩
theorem OpsIn.at {w : World} {A : Option Addr} {n c : Nat} {O : List (List UInt8)} (h : OpsIn w (.slice A n c) O) (j : Nat) (x : List UInt8) (hj : O[j]? = some x) : ∃ g, A = some ⟨g, 0, none⟩ ∧ w.cell? { block := g, off := 0 + j } = some (.string (str x)) := by
  rcases h with ⟨_, rfl⟩ | ⟨g, cap, h1, _, _, _, h5⟩
  · cases hj
  · injection h1 with e1 e2 e3
    exact ⟨g, e1, h5 j x hj⟩
theorem ops_of_buf {B : Nat} {v : Value} {O : List (List UInt8)} {W0 w : World} (h : SBuf B v (O.map str) W0 w) : OpsIn w v O := by
  rcases h.form with ⟨h1, h2⟩ | ⟨g, cap, h1, h2, h3, _, h4, h5⟩
  · exact .inl ⟨h1, by simpa using h2⟩
  · rw [List.length_map] at h1 h2
    exact .inr ⟨g, cap, h1, h2, h3, h4, fun j x hj => h5 j (str x) (by rw [List.getElem?_map, hj]; rfl)⟩
/-- append(more, open...) onto a row that has nothing -/
theorem wpList_ops {ops : Array Oper} {rest : List Oper} {o : Oper} {a : Act} {Q : Exit → Act → World → Prop} (hgd : o.guard = none) (s x : Operand)
    (ho : o.op = .call { callee := .builtin .append, args := #[s, x], argTypes := #[87, 87] })
    (w : World) (O : List (List UInt8)) (hs : a.eval s = .slice none 0 0) (v : Value) (hx : a.eval x = v) (hin : OpsIn w v O) (hlen : O.length ≤ 1000000)
    (h : ∀ v' w', SBuf w.heap.size v' (O.map str) w w' → wpList Tryz.prog ops Q rest (a.put o.dst v') w') : wpList Tryz.prog ops Q (o :: rest) a w := by
  obtain ⟨i0, hi, hz0, hz1, hz2⟩ := info_parts info_str
  have hb : SBuf w.heap.size (.slice none 0 0) [] w w := SBuf.nil (Below.refl _ _) (Nat.le_refl _)
  rcases hin with ⟨rfl, rfl⟩ | ⟨g, cap, rfl, _, _, _, hin⟩
  · refine wpList_plain hgd fun K hK => ?_
    have hr : (Builtin.append_ #[87, 87] o.type #[.slice none 0 0, .slice none 0 0]).run Tryz.prog w = .ok (.slice none 0 0) w := by
      simp [Builtin.append_, run_underlying Tryz.underlying87, sizeOf, typeInfo, zeroValue, hi, hz0, Builtin.lenOf, Builtin.firstCells]
    unfold Oper.wp execOp
    simp only [ho, resolve, invoke, builtin, Sem.run_bind, Sem.run_pure, Result.andThen_ok, List.map_toArray, List.map_cons, List.map_nil, hs, hx, hr]
    exact hK _ _ (h _ _ hb)
  · refine wpList_append_own _ hgd s x 87 ho w.heap.size 9 i0 (.string ByteArray.empty) 1 16 Tryz.underlying87 hi hz0 hz1 hz2 rfl (by decide) (.slice none 0 0) 0 [] hs hb.1 ⟨g, 0, none⟩ O.length cap (strVals (O.map str)) hx ?_ ?_ ?_ (by unfold maxLen; omega) (by omega) hb.2.2 ?_
    · rw [strVals_length, List.length_map]; omega
    · intro j u hj
      simp only [strVals, List.map_map, List.getElem?_map, Option.map_eq_some_iff] at hj
      obtain ⟨y, hy, rfl⟩ := hj
      have h3 : ((⟨g, 0, none⟩ : Addr).add j) = ⟨g, 0 + j, none⟩ := by cases j <;> rfl
      rw [h3]; exact hin j y hy
    · intro u hu
      simp only [strVals, List.map_map, List.mem_map] at hu
      obtain ⟨y, _, rfl⟩ := hu
      rfl
    · intro v' w' ho' hg _
      exact h v' w' (hb.grown (l' := O.map str) (by simpa [strVals_length] using ho') hg)
theorem shut_snoc (n : List UInt8) (O : List (List UInt8)) (k : Nat) (x : List UInt8) (hk : O[k]? = some x) : shutB n (O.take (k + 1)).reverse = (closesB n x || (!wallB x && shutB n (O.take k).reverse)) := by
  rw [List.take_add_one, hk, Option.toList_some, List.reverse_append]; rfl
/-! ### the walk of inside -/
theorem ins_at {op : List (List UInt8)} {t : Tr} (h : insB op t = false) {k : Nat} {f : NdH} {K : Tr} (hk : t.list[k]? = some (f, K)) : f.name = [] ∨ (shutB f.name op = false ∧ insB (f.name :: op) K = false) := by
  induction t generalizing k with
  | nil => cases hk
  | cons p K' r _ ih =>
    simp only [insB, Bool.or_eq_false_iff] at h
    cases k with
    | zero =>
      simp only [Tr.list, List.getElem?_cons_zero, Option.some.injEq, Prod.mk.injEq] at hk
      obtain ⟨rfl, rfl⟩ := hk
      by_cases hn : p.name = []
      · exact .inl hn
      · rw [if_neg hn, Bool.or_eq_false_iff] at h; exact .inr h.1
    | succ k => exact ih h.2 (by simpa [Tr.list] using hk)
def InsP (N : Nat) : Prop := ∀ (v o : Value) (t : Tr) (O : List (List UInt8)) (w : World), t.count < N → N + O.length ≤ 1000000 → NodesIn w v t → OpsIn w o O → insB O.reverse t = false →
    Calls Tryz.prog 35 #[v, o] w fun e w' => e = .returned (.bool false) ∧ Below w.heap.size w w'
theorem bl_next {w w1 w2 : World} (h : Below w.heap.size w w1) (h2 : Below w1.heap.size w1 w2) : Below w.heap.size w w2 := h.trans (h2.mono h.size)
set_option maxHeartbeats 16000000 in
theorem inside_step (n : Nat) (IH : InsP n) : InsP (n + 1) := by
  intro v o t O w hn hN h1 h2 hi
  have hn1 : t.len ≤ 1000000 := Nat.le_trans (Tr.len_count t) (by omega)
  have hn2 : O.length ≤ 1000000 := by omega
  obtain ⟨A1, c1, rfl⟩ := NodesC.form h1
  obtain ⟨A2, c2, rfl⟩ := h2.form
  have H1 := hide h1
  have H2 := hide h2
  have HI := hide hi
  have HIH := hide IH
  clear h1 h2 hi IH
  go_enter Tryz.func35, Tryz.ntmps35
  go_wp2_with fail
  go_loopw [5] (fun i wr => ∃ k : Nat, k ≤ t.len ∧ i = .int .i64 k ∧ Hid (Below w.heap.size w wr)) (fun i _ => t.len - (intOf i).toNat)
  case atStart => exact ⟨0, Nat.zero_le _, rfl, hide (Below.refl _ _)⟩
  case round =>
    obtain ⟨k, hk, rfl, HB⟩ := hrel
    by_cases hlt : k < t.len
    · obtain ⟨⟨f, K⟩, hf⟩ : ∃ f, t.list[k]? = some f := ⟨_, List.getElem?_eq_getElem (by rw [Tr.len_list]; exact hlt)⟩
      have hI1 := H1.out.kept HB.out
      have hI2 := H2.out.kept HB.out
      have hKc := Tr.at_count hf
      have hia := ins_at HI.out hf
      obtain ⟨a, d, x, y, z, m, ha, hblk0, p1, p2, hA, p3, p4, hm, hK⟩ := NodesC.at hI1 k f K hf
      obtain ⟨X1, hX1⟩ : ∃ X, X = str f.name := ⟨_, rfl⟩
      subst ha hm
      rw [← hX1] at p1
      have hblk : (a.add (k * 4)).block < wr.heap.size := by rw [addr_add_block]; exact hblk0
      have HAT : Hid (∀ w', Below wr.heap.size wr w' → w'.cell? (a.add (k * 4)) = some (.string X1) ∧ w'.cell? { block := (a.add (k * 4)).block, off := (a.add (k * 4)).off + 3 } = some (.slice x K.len z) ∧ NodesIn w' (.slice x K.len z) K) := hide (by
        intro w' hb
        have hlb : (a.add (k * 4)).block < wr.heap.size := hblk
        exact ⟨(World.cell?_of_block (hb.block _ hlb)).trans p1, (show w'.cell? { block := (a.add (k * 4)).block, off := (a.add (k * 4)).off + 3 } = wr.cell? { block := (a.add (k * 4)).block, off := (a.add (k * 4)).off + 3 } from World.cell?_of_block (hb.block _ hlb)).trans p4, NodesIn.kept hK hb⟩)
      by_cases hne : f.name = []
      · have s1 : X1.toList.isEmpty = true := by rw [hX1, hne, str_list]; rfl
        have hX0 : X1 = ⟨#[]⟩ := by rw [hX1, hne]; rfl
        clear hia hK hA hI1 hI2 hf hX1
        subst hX0
        go_wp2_with fail
        go_roundw
        case rel => exact ⟨k + 1, by omega, by go_num, HB⟩
        case measure => simp [intOf]; omega
      · rcases hia with hia | ⟨hs, hin⟩
        · exact absurd hia hne
        have s1 : X1.toList.isEmpty = false := by
          rw [hX1, str_list]
          cases hx : f.name with
          | nil => exact absurd hx hne
          | cons _ _ => rfl
        have s2 : (X1.toList == ByteArray.toList ⟨#[]⟩) = false := by
          rw [hX1, bytes_list, bytes_list, str_toList]; exact beq_eq_false_iff_ne.2 hne
        have HX1 := hide hX1
        have HN2 : Hid (O.length ≤ 1000000) := hide hn2
        have HN4 : Hid (n + (O ++ [f.name]).length ≤ 1000000) := hide (by rw [List.length_append, List.length_singleton]; omega)
        have HN3 : Hid ((O.map str).length + 1 ≤ 8796093022208) := hide (by rw [List.length_map]; omega)
        have HS := hide hs
        have HIN := hide hin
        have HO := hide hI2
        have HF := hide hf
        clear hs hin hI2 hf hK hA hI1 hX1
        go_wp2_with fail
        go_loopw [6] (fun i w2 => ∃ (q : Nat) (z : Int), q ≤ O.length ∧ z = (q : Int) - 1 ∧ i = .int .i64 z ∧ Hid (Below wr.heap.size wr w2) ∧ Hid (shutB f.name (O.take q).reverse = false)) (fun i _ => (intOf i + 1).toNat)
        case atStart => exact ⟨O.length, _, Nat.le_refl _, rfl, by go_num, hide (Below.refl _ _), by rw [List.take_length]; exact HS⟩
        case round =>
          obtain ⟨q, zq, hq, hz, rfl, HW, HQ⟩ := hrel
          have q0 := (HAT.out _ HW.out).1
          cases q with
          | zero =>
            obtain rfl : zq = -1 := by omega
            clear hz
            go_wp2_with (first
              | (refine wpList_ops rfl _ _ rfl _ O rfl _ rfl (HO.out.kept (show Below _ _ _ by first | exact HW.out | exact HW.out.drew | exact HW.out.drew.drew)) HN2.out ?_; intro v2 w2 hb2; have hbl := bl_next (show Below _ _ _ by first | exact HW.out | exact HW.out.drew | exact HW.out.drew.drew) hb2.below; obtain ⟨A3, c3, hv3⟩ := hb2.slice_len; rw [List.length_map] at hv3; subst hv3; have q1 := (HAT.out _ hbl).1; have HS2 := hide hb2; clear hb2 hbl)
              | (refine wpList_strs rfl _ _ rfl _ (.slice A3 O.length c3) (O.map str) rfl _ w2 X1 HS2.out rfl HN3.out ?_; intro v3 w3 hb3; have hbl := bl_next (show Below _ _ _ by first | exact HW.out | exact HW.out.drew | exact HW.out.drew.drew) hb3.below; have q3 := (HAT.out _ hbl).2.1; obtain ⟨A4, c4, hv4⟩ := hb3.slice_len; rw [List.length_append, List.length_map, List.length_singleton] at hv4; subst hv4; have HCI := hide (HIH.out _ _ K (O ++ [f.name]) w3 (by omega) HN4.out (HAT.out _ hbl).2.2 (ops_of_buf (by rw [List.map_append, List.map_cons, List.map_nil, ← HX1.out]; exact hb3)) (by rw [List.reverse_append]; exact HIN.out)); have HB3 := hide (bl_next HB.out hbl); have HS3 := hide hb3; clear hb3 hbl))
            refine HCI.out.mono ?_
            rintro e w4 ⟨rfl, hb4⟩
            have HB4 := hide (bl_next HB3.out hb4)
            clear hb4
            go_wp2_with fail
            go_roundw
            case rel => exact ⟨k + 1, by omega, by go_num, HB4⟩
            case measure => simp [intOf]; omega
          | succ q =>
            obtain rfl : zq = q := by omega
            clear hz
            obtain ⟨xo, hxo⟩ : ∃ f, O[q]? = some f := ⟨_, List.getElem?_eq_getElem (by omega)⟩
            obtain ⟨g, hg, hgc⟩ := (HO.out.kept HW.out).at q xo hxo
            subst hg
            have hgc2 := hgc
            rw [Nat.zero_add] at hgc2
            have hsq := HQ.out
            rw [shut_snoc _ _ _ _ hxo, Bool.or_eq_false_iff] at hsq
            have HCL : Hid (∀ w', Calls Tryz.prog 30 #[.string X1, .string (str xo)] w' fun e w'' => e = .returned (.bool false) ∧ w' = w'') := hide (fun w' => by
              have := closes14_any X1 (str xo) w'
              rw [HX1.out, str_toList, str_toList, hsq.1, ← HX1.out] at this
              exact this)
            have HWL : Hid (∀ w', Calls Tryz.prog 73 #[.string (str xo)] w' fun e w'' => e = .returned (.bool (wallL.contains xo)) ∧ w' = w'') := hide (fun w' => by
              have := lwall14_any (str xo) w'
              rw [str_toList] at this
              exact this)
            by_cases hw : wallB xo = true
            · rw [show wallL.contains xo = true from hw] at HWL
              clear hsq hxo hw
              go_wp2_with fail
              go_region_with (go_at_call 30; refine (HCL.out _).mono ?_; rintro e w5 ⟨rfl, hw5⟩; subst hw5)
              all_goals
                go_wp2_with (first
                  | (go_at_call 73; refine (HWL.out _).mono ?_; rintro e w5 ⟨rfl, hw5⟩; subst hw5)
                  | (refine wpList_ops rfl _ _ rfl _ O rfl _ rfl (HO.out.kept (show Below _ _ _ by first | exact HW.out | exact HW.out.drew | exact HW.out.drew.drew)) HN2.out ?_; intro v2 w2 hb2; have hbl := bl_next (show Below _ _ _ by first | exact HW.out | exact HW.out.drew | exact HW.out.drew.drew) hb2.below; obtain ⟨A3, c3, hv3⟩ := hb2.slice_len; rw [List.length_map] at hv3; subst hv3; have q1 := (HAT.out _ hbl).1; have HS2 := hide hb2; clear hb2 hbl)
                  | (refine wpList_strs rfl _ _ rfl _ (.slice A3 O.length c3) (O.map str) rfl _ w2 X1 HS2.out rfl HN3.out ?_; intro v3 w3 hb3; have hbl := bl_next (show Below _ _ _ by first | exact HW.out | exact HW.out.drew | exact HW.out.drew.drew) hb3.below; have q3 := (HAT.out _ hbl).2.1; obtain ⟨A4, c4, hv4⟩ := hb3.slice_len; rw [List.length_append, List.length_map, List.length_singleton] at hv4; subst hv4; have HCI := hide (HIH.out _ _ K (O ++ [f.name]) w3 (by omega) HN4.out (HAT.out _ hbl).2.2 (ops_of_buf (by rw [List.map_append, List.map_cons, List.map_nil, ← HX1.out]; exact hb3)) (by rw [List.reverse_append]; exact HIN.out)); have HB3 := hide (bl_next HB.out hbl); have HS3 := hide hb3; clear hb3 hbl))
                refine HCI.out.mono ?_
                rintro e w4 ⟨rfl, hb4⟩
                have HB4 := hide (bl_next HB3.out hb4)
                clear hb4
                go_wp2_with fail
                go_roundw
                case rel => exact ⟨k + 1, by omega, by go_num, HB4⟩
                case measure => simp [intOf]; omega
            · have hw0 : wallB xo = false := Bool.eq_false_iff.2 hw
              rw [hw0] at hsq
              have HQ2 : Hid (shutB f.name (O.take q).reverse = false) := hide (by simpa using hsq.2)
              rw [show wallL.contains xo = false from hw0] at HWL
              clear hsq hxo hw hw0
              go_wp2_with fail
              go_region_with (go_at_call 30; refine (HCL.out _).mono ?_; rintro e w5 ⟨rfl, hw5⟩; subst hw5)
              all_goals
                go_wp2_with (go_at_call 73; refine (HWL.out _).mono ?_; rintro e w5 ⟨rfl, hw5⟩; subst hw5)
                go_roundw
                case rel => exact ⟨q, _, by omega, rfl, by go_num, hide (by first | exact HW.out | exact HW.out.drew | exact HW.out.drew.drew), HQ2⟩
                case measure => first | omega | (simp [intOf]; done) | (simp [intOf]; omega)
    · go_wp2_with fail
      go_ret
      exact ⟨rfl, HB.out⟩
theorem inside_all : ∀ n, InsP n
  | 0 => fun v o t O w h => absurd h (Nat.not_lt_zero _)
  | n + 1 => inside_step n (inside_all n)
theorem inside_any (v : Value) (t : Tr) (w : World) (hn : t.count < 1000000) (h1 : NodesIn w v t) (hi : insB [] t = false) :
    Calls Tryz.prog 35 #[v, .slice none 0 0] w fun e w' => e = .returned (.bool false) ∧ Below w.heap.size w w' :=
  inside_all (t.count + 1) v (.slice none 0 0) t [] w (Nat.lt_succ_self _) (by simp; omega) h1 (.inl ⟨rfl, rfl⟩) hi
set_option maxHeartbeats 8000000 in
theorem law_TreeNests (s : ByteArray) (hss : s.size ≤ maxLen) (w : World) (hE : EnvX w) :
    Calls Tryz.prog 8 #[.string s] w fun e w' => e = .returned (.bool true) ∧ Below w.heap.size w w' := by
  have HE := hide hE
  clear hE
  unfold maxLen at hss
  rcases Nat.lt_or_ge 1200 s.size with hqs | hs
  · have t0 : decide ((1200 : Int) < s.size) = true := decide_eq_true (by omega)
    go_enter Tryz.func8, Tryz.ntmps8
    go_wp2_with fail
    refine (live14_any _ HE.out).mono ?_
    rintro e wl ⟨rfl, hbl⟩
    have HBL := hide (hbl)
    clear hbl
    go_wp2_with fail
    go_ret
    exact ⟨rfl, HBL.out⟩
  have t0 : decide ((1200 : Int) < s.size) = false := decide_eq_false (by omega)
  obtain ⟨m, hm⟩ := HE.out.2
  have HB1 := hide (treeBuild_any s m w (by omega) HE.out.1 hm)
  have HSM := hide (build_count (scanL decE [] [] s.data.toList)).1
  clear hm
  go_enter Tryz.func8, Tryz.ntmps8
  go_wp2_with fail
  refine HB1.out.mono ?_
  rintro e w1 ⟨v1, rfl, hn1, hb1⟩
  have HIN := hide (inside_any v1 _ w1 (by have := HSM.out; omega) hn1 (build_ins _))
  obtain ⟨A1, c1, rfl⟩ := NodesC.form hn1
  have HE1 := hide (HE.out.kept hb1)
  have HBB1 := hide hb1
  clear hn1 hb1
  go_wp2_with fail
  refine HIN.out.mono ?_
  rintro e w2 ⟨rfl, hb2⟩
  have HE2 := hide (HE1.out.kept hb2)
  have HBB2 := hide (bl_next HBB1.out hb2)
  clear hb2
  go_wp2_with fail
  refine (live14_any _ HE2.out).mono ?_
  rintro e wl ⟨rfl, hbl⟩
  have HBL := hide (bl_next HBB2.out hbl)
  clear hbl
  go_wp2_with fail
  go_ret
  exact ⟨rfl, HBL.out⟩
end Go.Proofs.YtgokefodmjhhiaaGreatDoor
