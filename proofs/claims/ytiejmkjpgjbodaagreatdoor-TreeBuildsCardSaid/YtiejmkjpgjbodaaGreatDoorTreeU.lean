import Derived.Test.YtiejmkjpgjbodaaGreatDoorTreeT
import Derived.Test.YtiejmkjpgjbodaaGreatDoorBaseO
namespace Go.Proofs.YtiejmkjpgjbodaaGreatDoor
open Go.RowKit
set_option linter.unusedVariables false
set_option linter.unusedSimpArgs false
set_option maxRecDepth 100000
theorem attrs_since {W w : World} {B : Nat} {u : Value} {m : Nat} {xs : List Value} (hs : Since4 W w) (hu : W.ownsRow B 43 2 u m xs) : w.ownsRow B 43 2 u m xs := by
  refine ⟨hu.1, ?_⟩
  rcases hu.2 with h | ⟨g, cap, cur, rfl, h1, h2, h3⟩
  · exact .inl h
  · exact .inr ⟨g, cap, cur, rfl, h1, (hs g _ _ _ h2 (by decide)).trans h2, h3⟩
theorem BS.withAttrs {C : Nat → Prop} {B B' b : Nat} {r u : Value} {st : List PartV} {n : Nat} {W0 w : World} {ats : List AtL} (h : BS C B b r st n W0 w) (hu : w.ownsRow B' 43 2 u ats.length (atVals ats)) : ∃ C' : Nat → Prop, BS C' B b r st n W0 w ∧ AttrsC C' w u ats := by
  refine ⟨fun g => C g ∨ ∃ (cur : Array Value) (fz : Nat × Nat), w.heap[g]? = some (Obj.cells cur 43 fz), h.wider (fun x hx => .inl hx) (fun p hp g e hc => ?_) (fun g hg => ?_), attrs_of_row hu, fun a m c e hne => .inr ?_⟩
  · rcases hc with hc | ⟨cur, fz, hh⟩
    · exact (h.kids p hp).out g e hc
    · obtain ⟨cur2, T2, fz2, h2, h3⟩ := own_ty (h.kids p hp).row e
      rw [hh] at h2
      injection h2 with h2
      injection h2 with _ h2
      rw [← h2] at h3
      exact absurd h3 (by decide)
  · rcases hg with hg | ⟨cur, fz, hh⟩
    · exact h.typ g hg
    · refine ⟨lt_of_block hh, fun cur2 T2 fz2 h2 => .inr ?_⟩
      rw [hh] at h2
      injection h2 with h2
      injection h2 with _ h2
      exact h2.symm
  · rcases hu.2 with ⟨e0, _⟩ | ⟨g, cap, cur, e0, _, hh, _⟩
    · rw [e0] at e; cases e
    · rw [e0] at e
      injection e with e _ _
      injection e with e
      subst e
      exact ⟨cur, _, hh⟩
theorem info_part : (Tryz.prog.info? 58).map (fun i => (i.zero, i.size, i.bytes)) = some (some (.agg #[.string ByteArray.empty, .slice none 0 0, .string ByteArray.empty, .slice none 0 0, .slice none 0 0]), 5, 104) := by kernel_rfl
theorem step_part {ops : Array Oper} {o : Oper} {a : Act} {w : World} {K : Act → World → Prop} {Q : Exit → Act → World → Prop} {E : Prop} (hgd : o.guard = none) (s x : Operand)
    (ho : o.op = .call { callee := .builtin .append, args := #[s, x], argTypes := #[45, 45] })
    (B : Nat) (v : Value) (st : List PartV) (hs : a.eval s = v) (hb : w.ownsRow B 58 5 v st.length (partVals st.reverse)) (hB : B ≤ w.heap.size) (ad : Addr) (nm : List UInt8) (ats : List AtL) (A : Option Addr) (c m : Nat)
    (hx : a.eval x = .slice (some ad) 1 1) (h0 : w.cell? (ad.add 0) = some (.string (str nm))) (h1 : w.cell? (ad.add 1) = some (.slice A m c)) (h2 : w.cell? (ad.add 2) = some (.string ⟨#[]⟩)) (h3 : w.cell? (ad.add 3) = some (.slice none 0 0)) (h4 : w.cell? (ad.add 4) = some (.slice none 0 0))
    (hlen : st.length + 1 ≤ 1073741824)
    (h : ∀ v' w', w'.ownsRow B 58 5 v' (st.length + 1) (partVals st.reverse ++ partVals [⟨nm, ats, .slice A m c, [], .slice none 0 0, [], .slice none 0 0⟩]) → w.grownBy w' v.ownBlock → K (a.put o.dst v') w') :
    if Region.wanted o (yielded ops a.tmps) = true then Oper.wp Tryz.prog o a w K Q else E := by
  have hw : Region.wanted o (yielded ops a.tmps) = true := by simp [Region.wanted, hgd]
  rw [if_pos hw]
  obtain ⟨i0, hi, hz0, hz1, hz2⟩ := info_parts info_part
  refine wp_append_own _ s x 45 ho B 58 i0 _ 5 104 Tryz.underlying45 hi hz0 hz1 hz2 rfl (by decide) v st.length (partVals st.reverse) hs hb ad 1 1 (partVals [⟨nm, ats, .slice A m c, [], .slice none 0 0, [], .slice none 0 0⟩]) hx rfl ?_ ?_ (by unfold maxLen; omega) (by omega) hB ?_
  · intro j u hj
    match j, hj with
    | 0, hj => simp [partVals] at hj; subst hj; exact h0
    | 1, hj => simp [partVals] at hj; subst hj; exact h1
    | 2, hj => simp [partVals] at hj; subst hj; exact h2
    | 3, hj => simp [partVals] at hj; subst hj; exact h3
    | 4, hj => simp [partVals] at hj; subst hj; exact h4
    | (j + 5), hj => simp [partVals] at hj
  · intro u hu
    simp [partVals] at hu
    rcases hu with rfl | rfl | rfl | rfl | rfl <;> rfl
  · intro v' w' ho' hg _
    exact h v' w' ho' hg
theorem part_row (W : World) (c0 c1 c2 c3 c4 : Value) : (W.alloc (.cells #[c0, c1, c2, c3, c4] 58)).cell? ((⟨W.heap.size, 0, none⟩ : Addr).add 0) = some c0 ∧ (W.alloc (.cells #[c0, c1, c2, c3, c4] 58)).cell? ((⟨W.heap.size, 0, none⟩ : Addr).add 1) = some c1 ∧ (W.alloc (.cells #[c0, c1, c2, c3, c4] 58)).cell? ((⟨W.heap.size, 0, none⟩ : Addr).add 2) = some c2 ∧ (W.alloc (.cells #[c0, c1, c2, c3, c4] 58)).cell? ((⟨W.heap.size, 0, none⟩ : Addr).add 3) = some c3 ∧ (W.alloc (.cells #[c0, c1, c2, c3, c4] 58)).cell? ((⟨W.heap.size, 0, none⟩ : Addr).add 4) = some c4 := by
  have h : (W.alloc (.cells #[c0, c1, c2, c3, c4] 58)).heap[W.heap.size]? = some (.cells #[c0, c1, c2, c3, c4] 58 (0, 0)) := by
    show (W.heap.push _)[W.heap.size]? = _
    exact Array.getElem?_push_size
  exact ⟨by rw [Addr.add_lit, Lib.cell_of_heap h]; rfl, by rw [Addr.add_lit, Lib.cell_of_heap h]; rfl, by rw [Addr.add_lit, Lib.cell_of_heap h]; rfl, by rw [Addr.add_lit, Lib.cell_of_heap h]; rfl, by rw [Addr.add_lit, Lib.cell_of_heap h]; rfl⟩
def ClosedS (B b n : Nat) (is : List UInt8 → Bool) (F : List PartL) (W1 wr : World) (st : List PartV) : Prop :=
  (∃ C r, BS C B b r st n W1 wr) ∧ closeAll is (toLs st).length (toLs st) = F ∧ stW (toLs st) ≤ 5000 ∧ (∀ p ∈ st, p.tail.length ≤ 70368744177664) ∧ st.length ≤ 1000000 ∧ st ≠ []
def StartP (B b : Nat) (t : TokL) (F : List PartL) (n : Nat) (W0 w' : World) : Prop :=
  ∃ C r st', BS C B b r st' (if n = 5000 then n else n + 1) W0 w' ∧ toLs st' = (if n = 5000 then F else (putP t F n).1) ∧ ∀ p ∈ st', p.tail.length ≤ 70368744177664
set_option maxHeartbeats 16000000 in
theorem start14_any (C : Nat → Prop) (B B' b : Nat) (r : Value) (st : List PartV) (n : Nat) (W0 w : World) (t : TokL) (u : Value) (h : BS C B b r st n W0 w) (hs : st ≠ []) (hw : stW (toLs st) ≤ 5000) (hn : n ≤ 5000) (htl : ∀ p ∈ st, p.tail.length ≤ 70368744177664) (hl : st.length ≤ 1000000) (hu : w.ownsRow B' 43 2 u t.attrs.length (atVals t.attrs)) :
    Calls Tryz.prog 35 #[.pointer (some ⟨b, 0, none⟩), tokV t u] w fun e w' => e = .returned (.tuple #[]) ∧ StartP B b t (closeAll (closesB t.name) (toLs st).length (toLs st)) n W0 w' := by
  obtain ⟨A, c, rfl⟩ : ∃ A c, u = .slice A t.attrs.length c := by
    rcases hu.2 with ⟨rfl, h0⟩ | ⟨g, cap, cur, rfl, _⟩
    · rw [h0]; exact ⟨_, _, rfl⟩
    · exact ⟨_, _, rfl⟩
  obtain ⟨F, hF⟩ : ∃ F, F = closeAll (closesB t.name) (toLs st).length (toLs st) := ⟨_, rfl⟩
  rw [← hF]
  obtain ⟨W1, hW1⟩ : ∃ W1, W1 = w.alloc (.cells #[.int .i64 (t.kind : Int), .string (str t.name), .slice A t.attrs.length c, .string (str t.text)] 51) := ⟨_, rfl⟩
  have hb1 : Below w.heap.size w W1 := by rw [hW1]; exact below_one _ _
  have hbx : W1.heap[w.heap.size]? = some (Obj.cells #[.int .i64 (t.kind : Int), .string (str t.name), .slice A t.attrs.length c, .string (str t.text)] 51 (0, 0)) := by rw [hW1]; exact heap_alloc_new w _
  have hB1 : BS C B b r st n W1 W1 := (h.kept hb1).from
  have HON : Hid (∀ C' r' st' n' w', BS C' B b r' st' n' W1 w' → BS C' B b r' st' n' W0 w') := hide fun C' r' st' n' w' h' => h'.onto ((h.kept hb1).below) ((h.kept hb1).since)
  have HU : Hid (W1.ownsRow B' 43 2 (.slice A t.attrs.length c) t.attrs.length (atVals t.attrs)) := hide (hu.kept (grown_none hb1) (by cases hv : Value.ownBlock (.slice A t.attrs.length c) <;> simp))
  have HBX : Hid (∀ w', Since4 W1 w' → w'.heap[w.heap.size]? = some (Obj.cells #[.int .i64 (t.kind : Int), .string (str t.name), .slice A t.attrs.length c, .string (str t.text)] 51 (0, 0))) := hide fun w' hs => (hs _ _ _ _ hbx (by decide)).trans hbx
  have HS : Hid (ClosedS B b n (closesB t.name) F W1 W1 st) := hide ⟨⟨C, r, hB1⟩, hF.symm, hw, htl, hl, hs⟩
  have HASK := hide (ask_start w.heap.size (str t.name))
  have HN := hide hn
  obtain ⟨nm, hnm⟩ : ∃ nm, nm = str t.name := ⟨_, rfl⟩
  have hnl : nm.data.toList = t.name := by rw [hnm, str_toList]
  have hmf : ∀ (fn : Fn) (first cap : Array Value) (w : World), (Instr.makeFunc fn first cap).run Tryz.prog w = .ok (.func fn first cap) w := fun _ _ _ _ => rfl
  have HNM := hide hnm
  have HW1 := hide hW1
  rw [← hnm] at HASK HBX
  unfold AskAt at HASK
  rw [hnl] at HASK
  have HK := hide (enters_of Tryz.func86 (by kernel_rfl) rfl)
  clear h hs hw hn htl hl hu hF hb1 hbx hB1 hnl
  unfold tokV
  rw [← hnm]
  rw [← hnm] at hW1
  clear hnm
  go_enter Tryz.func35, Tryz.ntmps35
  go_wp2_with fail
  rw [← hW1]
  clear hW1
  go_loopg [] st.length (fun gk wr => ∃ st' : List PartV, st'.length ≤ gk ∧ Hid (ClosedS B b n (closesB t.name) F W1 wr st'))
  case atStart => exact ⟨st, Nat.le_refl _, HS.out⟩
  case round =>
    obtain ⟨st', hlen, HR⟩ := hrel
    obtain ⟨⟨C1, r1, hb⟩, h1, h2, h3, h4, h5⟩ := HR.out
    have hbx := HBX.out wr hb.since
    have hcl := close_gen 86 w.heap.size nm (closesB t.name) HK.out HASK.out C1 B b r1 st' n W1 wr hb h5 h2 h3 h4 (by rw [Lib.cell_of_heap hbx]; rfl)
    cases hf : findP (closesB t.name) (toLs st') with
    | some k =>
      rw [hf] at hcl
      have HCL := hide hcl
      obtain ⟨k1, k2⟩ := findP_lt hf
      rw [toLs_length] at k2
      have hcs := closeAll_step hf
      have hcn := closeN_length k (toLs st') (by rw [toLs_length]; exact k2)
      have HP : Hid (∀ st2 : List PartV, toLs st2 = closeB (closesB t.name) (toLs st') → st2.length < st'.length ∧ closeAll (closesB t.name) (toLs st2).length (toLs st2) = F ∧ stW (toLs st2) ≤ 5000 ∧ st2.length ≤ 1000000 ∧ st2 ≠ []) := hide fun st2 he => by
        unfold closeB at he
        rw [hf] at he
        simp only at he
        have hl2 : st2.length = st'.length - k := by rw [← toLs_length, he, hcn, toLs_length]
        refine ⟨by omega, by rw [he, ← hcs]; exact h1, by rw [he, closeN_wt]; exact h2, by omega, fun e => by rw [e] at hl2; simp only [List.length_nil] at hl2; omega⟩
      clear hb hbx hcl hf k1 k2 hcs hcn h1 h2 h3 h4 h5
      go_wp2_with fail
      refine HCL.out.mono ?_
      rintro e w2 ⟨rfl, st2, hb2, he2, ht2⟩
      have HB2 := hide hb2
      have HE2 := hide (HP.out st2 he2)
      have HT2 := hide ht2
      clear hb2 he2 ht2
      go_wp2_with fail
      cases gk with
      | zero => exact absurd hlen (by have := HE2.out.1; omega)
      | succ gk =>
      go_roundg gk
      case rel => exact ⟨st2, by have := HE2.out.1; omega, hide ⟨HB2.out, HE2.out.2.1, HE2.out.2.2.1, HT2.out, HE2.out.2.2.2.1, HE2.out.2.2.2.2⟩⟩
      case measure => omega
    | none =>
      rw [hf] at hcl
      have HCL := hide hcl
      have HP : Hid (∀ st2 : List PartV, toLs st2 = closeB (closesB t.name) (toLs st') → toLs st2 = F ∧ stW (toLs st2) ≤ 5000 ∧ st2.length ≤ 1000000 ∧ st2 ≠ []) := hide fun st2 he => by
        unfold closeB at he
        rw [hf] at he
        simp only at he
        have hl2 : st2.length = st'.length := by rw [← toLs_length, he, toLs_length]
        refine ⟨by rw [he, ← h1, closeAll_none hf], by rw [he]; exact h2, by omega, fun e => by rw [e] at hl2; simp only [List.length_nil] at hl2; exact h5 (List.eq_nil_of_length_eq_zero hl2.symm)⟩
      clear hb hbx hcl hf h1 h2 h3 h4 h5
      go_wp2_with fail
      refine HCL.out.mono ?_
      rintro e w2 ⟨rfl, st2, ⟨C2, r2, hb2⟩, he2, ht2⟩
      have HE2 := hide (HP.out st2 he2)
      have HT2 := hide ht2
      obtain ⟨g, cap, rfl, i1, i2, i3, i4⟩ := hb2.form HE2.out.2.2.2
      have HB2 := hide hb2
      have HC2 := hide (And.intro i1 i2)
      clear hb2 he2 ht2 HP HCL HR hlen i1 i2 i3 i4
      by_cases hn5 : n = 5000
      · have HR2 : Hid (StartP B b t F n W0 w2) := hide ⟨C2, _, st2, by rw [if_pos hn5]; exact HON.out _ _ _ _ _ HB2.out, by rw [if_pos hn5]; exact HE2.out.1, HT2.out⟩
        have HT := hide (take_no C2 B b _ st2 W1 w2 (by have := HB2.out; rw [hn5] at this; exact this))
        clear hn5
        go_wp2_with fail
        refine HT.out.mono ?_
        rintro e w3 ⟨rfl, rfl⟩
        go_wp2_with fail
        try simp only [Exit.inBlock, Exit.then]
        refine bodyPost_ret (results_none rfl _ _ _) rfl ?_
        exact ⟨rfl, HR2.out⟩
      · match st2, HB2, HE2, HT2, HC2 with
        | [], _, HE2, _, _ => exact absurd rfl HE2.out.2.2.2
        | p :: rest, HB2, HE2, HT2, HC2 =>
        have hb2 : BS C2 B b (.slice (some ⟨g, 0, none⟩) (rest.length + 1) cap) (p :: rest) n W1 w2 := HB2.out
        have hn5' : n < 5000 := by have := HN.out; omega
        have hrl : rest.length ≤ 1000000 := by have := HE2.out.2.2.1; simp only [List.length_cons] at this; omega
        have HT := hide (take_yes C2 B b _ (p :: rest) n W1 w2 hb2 hn5')
        have HRL := hide hrl
        have HN5 := hide hn5
        clear hb2 hn5 hn5' hrl
        go_wp2_with fail
        refine HT.out.mono ?_
        rintro e w3 ⟨rfl, hb3⟩
        have HI := hide (inner_at C2 B b g cap p rest (n + 1) W1 w3 hb3 HRL.out)
        clear hb3
        go_wp2_with fail
        refine HI.out.mono ?_
        rintro e w4 ⟨rfl, hb4⟩
        have HEX := hide (endTextT_any C2 B b g cap p rest (n + 1) W1 w4 hb4 (by have := HRL.out; omega) (by have := kids_le (p := p) (List.mem_cons_self ..) HE2.out.2.1; omega) (HT2.out p (List.mem_cons_self ..)))
        clear hb4
        go_wp2_with fail
        refine HEX.out.mono ?_
        rintro e w5 ⟨rfl, p', hb5, hp'⟩
        obtain ⟨C3, hb6, ha6⟩ := hb5.withAttrs (attrs_since hb5.since HU.out)
        have hbx := HBX.out w5 hb5.since
        have bx1 : w5.cell? ⟨w.heap.size, 1, none⟩ = some (.string nm) := by rw [Lib.cell_of_heap hbx]; rfl
        have bx2 : w5.cell? ⟨w.heap.size, 2, none⟩ = some (.slice A t.attrs.length c) := by rw [Lib.cell_of_heap hbx]; rfl
        have hk6 := below_one w5 (Obj.cells #[.string nm, .slice A t.attrs.length c, .string ⟨#[]⟩, .slice none 0 0] 33)
        have HB6 := hide (hb6.kept hk6)
        have HA6 := hide (ha6.mono (C' := C3) (fun k hk => hk6.block k (hb6.typ k hk).1) (fun _ x => x))
        have HP := hide hp'
        have hbe := node_row w5 (.string nm) (.slice A t.attrs.length c) (.string ⟨#[]⟩) (.slice none 0 0)
        rw [Addr.add_zero', Addr.add_lit, Addr.add_lit, Addr.add_lit, Nat.zero_add, Nat.zero_add, Nat.zero_add] at hbe
        have HBE := hide hbe
        have HBXC : Hid ((w5.alloc (Obj.cells #[.string nm, .slice A t.attrs.length c, .string ⟨#[]⟩, .slice none 0 0] 33)).cell? ⟨w.heap.size, 1, none⟩ = some (.string nm)) := hide ((hk6.cell (World.block_lt_of_cell? _ _ bx1)).trans bx1)
        have bx1a := HBXC.out
        clear hb5 hb6 ha6 hbx hk6 hp' hbe
        go_wp2_with fail
        clear bx1a
        generalize (w5.alloc (Obj.cells #[.string nm, .slice A t.attrs.length c, .string ⟨#[]⟩, .slice none 0 0] 33)) = W6 at HB6 HA6 HBE HBXC ⊢
        have hpl : p'.kids.length ≤ 5001 := by
          have h1 := kids_le (p := p) (List.mem_cons_self ..) HE2.out.2.1
          have h2 := congrArg (fun z : PartL => z.kids.length) HP.out
          unfold endTextL at h2
          split at h2
          · simp only [PartV.toL, List.length_map] at h2; omega
          · simp only [PartV.toL, List.length_map, List.length_append, List.length_cons, List.length_nil] at h2; omega
        have HPL := hide hpl
        have htp : p'.tail = [] := by
          have h2 := congrArg (fun z : PartL => z.tail) HP.out
          simp only [endText_tail] at h2
          exact h2
        have HTP : Hid (p'.tail.length ≤ 70368744177664) := hide (by rw [htp]; exact Nat.zero_le _)
        have HQT : Hid (∀ x ∈ p' :: rest, x.tail = []) := hide (fun x hx => by
          rcases List.mem_cons.1 hx with rfl | hx
          · exact htp
          · exact HB6.out.quiet x hx)
        have hv := fun w => void14_any nm w
        rw [show nm.data.toList = t.name by rw [HNM.out, str_toList]] at hv
        clear hpl htp bx1 bx2
        cases hvb : voidL.contains t.name with
        | true =>
          rw [hvb] at hv
          have HV := hide hv
          have HCD : Hid (voidB t.name = true ∨ 30 < (p.toL :: toLs rest).length) := hide (.inl hvb)
          clear hv hvb
          refine (HV.out _).mono ?_
          rintro e w8 ⟨rfl, rfl⟩
          have hb7 := HB6.out
          obtain ⟨QA, QC, hqv⟩ := (hb7.kids p' (List.mem_cons_self ..)).form
          obtain ⟨z0, z1, z2, z3, z4, zf⟩ := hb7.cells
          rw [hqv] at z3
          have HQV := hide hqv
          obtain ⟨y0, y1, y2, y3⟩ := HBE.out
          clear hb7 hqv z0 z1 z2 z4
          have HOWN : Hid (∀ W, Below W6.heap.size W6 W → W.ownsRow B 33 4 (.slice QA p'.kids.length QC) p'.kids.length (nodeVals p'.kids)) := hide fun W hW => by
            have := ((HB6.out.kept hW).kids p' (List.mem_cons_self ..)).row
            rw [HQV.out] at this; exact this
          have z3a : ∀ ob, (W6.alloc ob).cell? ⟨g, rest.length * 5 + 3, none⟩ = some (.slice QA p'.kids.length QC) := fun ob => ((below_one W6 ob).cell (World.block_lt_of_cell? _ _ z3)).trans z3
          have y0a : ∀ ob, (W6.alloc ob).cell? ⟨w5.heap.size, 0, none⟩ = some (.string nm) := fun ob => ((below_one W6 ob).cell (World.block_lt_of_cell? _ _ y0)).trans y0
          have y1a : ∀ ob, (W6.alloc ob).cell? ⟨w5.heap.size, 1, none⟩ = some (.slice A t.attrs.length c) := fun ob => ((below_one W6 ob).cell (World.block_lt_of_cell? _ _ y1)).trans y1
          have y2a : ∀ ob, (W6.alloc ob).cell? ⟨w5.heap.size, 2, none⟩ = some (.string ⟨#[]⟩) := fun ob => ((below_one W6 ob).cell (World.block_lt_of_cell? _ _ y2)).trans y2
          have y3a : ∀ ob, (W6.alloc ob).cell? ⟨w5.heap.size, 3, none⟩ = some (.slice none 0 0) := fun ob => ((below_one W6 ob).cell (World.block_lt_of_cell? _ _ y3)).trans y3
          have tn5 : ((p'.kids.length : Nat) : Int) < (p'.kids.length : Int) + 1 := by omega
          go_wp2_with fail
          go_region_law (first
            | (refine step_node0 rfl _ _ rfl B (.slice QA p'.kids.length QC) p'.kids rfl (HOWN.out _ ?_) ?_ ⟨W6.heap.size, 0, none⟩ rfl (node_row _ _ _ _ _).1 (node_row _ _ _ _ _).2.1 (node_row _ _ _ _ _).2.2.1 (node_row _ _ _ _ _).2.2.2 (by have := HPL.out; omega) ?_
               · exact ((Below.refl _ _).alloc (Nat.le_refl _) _).drew
               · exact Nat.le_trans HB6.out.size (((Below.refl W6.heap.size W6).alloc (Nat.le_refl _) _).drew).size
               intro g' cap' w7 ho2 hg2 hor2 hc2 hm2
               have hk1 : Below W6.heap.size W6 (W6.alloc (.cells #[.string ⟨#[]⟩, .slice none 0 0, .string ⟨#[]⟩, .slice none 0 0] 33)).drew := ((Below.refl W6.heap.size W6).alloc (Nat.le_refl _) _).drew
               have HB1 := hide (HB6.out.kept hk1)
               have HA7 := hide (HA6.out.mono (C' := C3) (fun k hk => hk1.block k (HB6.out.typ k hk).1) (fun _ x => x))
               have hg3 := hg2
               rw [← HQV.out] at hg3 hor2
               obtain ⟨n1, n2, ⟨n3, n4, n5, n6⟩, n7, n8⟩ := app_facts HB1.out ho2 hg3 hor2
               have n9 : w7.cell? ⟨g, rest.length * 5 + 3, none⟩ = some (.slice QA p'.kids.length QC) := (n8 _).trans (z3a _)
               have n11 : ¬ (g = g') := fun e => n1 e.symm
               have HO2 := hide ho2
               have HG2 := hide hg3
               have HOR := hide hor2
               clear ho2 hg2 hg3 hor2 hc2 hm2 n8 hk1))
          all_goals
            first | rw [kid_comm w7 n11] | skip
            have hb8 := HB1.out.kidWritten (q := ((⟨t.name, t.attrs, []⟩, .nil), (.slice A t.attrs.length c, .slice none 0 0))) HO2.out HG2.out HOR.out ⟨HA7.out, .inl ⟨rfl, rfl⟩⟩
            simp only at hb8
            rw [← HNM.out] at hb8
            have HB8 := hide hb8
            clear hb8
            go_wp2_with fail
            try simp only [Exit.inBlock, Exit.then]
            refine bodyPost_ret (results_none rfl _ _ _) rfl ?_
            refine ⟨rfl, C3, _, _, by rw [if_neg HN5.out]; exact HON.out _ _ _ _ _ HB8.out, ?_, ?_⟩
            · rw [if_neg HN5.out, ← HE2.out.1]
              show _ = (putP t (p.toL :: toLs rest) n).1
              rw [putP_cons, if_pos HCD.out, ← HP.out]
              simp [toLs, PartV.toL]
            · intro x hx
              rcases List.mem_cons.1 hx with rfl | hx
              · exact HTP.out
              · exact HT2.out x (List.mem_cons_of_mem _ hx)
        | false =>
          rw [hvb] at hv
          have HV := hide hv
          by_cases hd : 30 < rest.length + 1
          · have HCD : Hid (voidB t.name = true ∨ 30 < (p.toL :: toLs rest).length) := hide (.inr (by rw [List.length_cons, toLs_length]; exact hd))
            have d0 : decide ((30 : Int) < (rest.length : Int) + 1) = true := decide_eq_true (by omega)
            have cc0 := HB6.out.c0
            clear hv hvb hd
            refine (HV.out _).mono ?_
            rintro e w8 ⟨rfl, rfl⟩
            have hb7 := HB6.out
            obtain ⟨QA, QC, hqv⟩ := (hb7.kids p' (List.mem_cons_self ..)).form
            obtain ⟨z0, z1, z2, z3, z4, zf⟩ := hb7.cells
            rw [hqv] at z3
            have HQV := hide hqv
            obtain ⟨y0, y1, y2, y3⟩ := HBE.out
            clear hb7 hqv z0 z1 z2 z4
            have HOWN : Hid (∀ W, Below W6.heap.size W6 W → W.ownsRow B 33 4 (.slice QA p'.kids.length QC) p'.kids.length (nodeVals p'.kids)) := hide fun W hW => by
              have := ((HB6.out.kept hW).kids p' (List.mem_cons_self ..)).row
              rw [HQV.out] at this; exact this
            have z3a : ∀ ob, (W6.alloc ob).cell? ⟨g, rest.length * 5 + 3, none⟩ = some (.slice QA p'.kids.length QC) := fun ob => ((below_one W6 ob).cell (World.block_lt_of_cell? _ _ z3)).trans z3
            have y0a : ∀ ob, (W6.alloc ob).cell? ⟨w5.heap.size, 0, none⟩ = some (.string nm) := fun ob => ((below_one W6 ob).cell (World.block_lt_of_cell? _ _ y0)).trans y0
            have y1a : ∀ ob, (W6.alloc ob).cell? ⟨w5.heap.size, 1, none⟩ = some (.slice A t.attrs.length c) := fun ob => ((below_one W6 ob).cell (World.block_lt_of_cell? _ _ y1)).trans y1
            have y2a : ∀ ob, (W6.alloc ob).cell? ⟨w5.heap.size, 2, none⟩ = some (.string ⟨#[]⟩) := fun ob => ((below_one W6 ob).cell (World.block_lt_of_cell? _ _ y2)).trans y2
            have y3a : ∀ ob, (W6.alloc ob).cell? ⟨w5.heap.size, 3, none⟩ = some (.slice none 0 0) := fun ob => ((below_one W6 ob).cell (World.block_lt_of_cell? _ _ y3)).trans y3
            have tn5 : ((p'.kids.length : Nat) : Int) < (p'.kids.length : Int) + 1 := by omega
            go_wp2_with fail
            clear cc0
            go_region_law (first
              | (refine step_node0 rfl _ _ rfl B (.slice QA p'.kids.length QC) p'.kids rfl (HOWN.out _ ?_) ?_ ⟨W6.heap.size, 0, none⟩ rfl (node_row _ _ _ _ _).1 (node_row _ _ _ _ _).2.1 (node_row _ _ _ _ _).2.2.1 (node_row _ _ _ _ _).2.2.2 (by have := HPL.out; omega) ?_
                 · exact ((Below.refl _ _).alloc (Nat.le_refl _) _).drew
                 · exact Nat.le_trans HB6.out.size (((Below.refl W6.heap.size W6).alloc (Nat.le_refl _) _).drew).size
                 intro g' cap' w7 ho2 hg2 hor2 hc2 hm2
                 have hk1 : Below W6.heap.size W6 (W6.alloc (.cells #[.string ⟨#[]⟩, .slice none 0 0, .string ⟨#[]⟩, .slice none 0 0] 33)).drew := ((Below.refl W6.heap.size W6).alloc (Nat.le_refl _) _).drew
                 have HB1 := hide (HB6.out.kept hk1)
                 have HA7 := hide (HA6.out.mono (C' := C3) (fun k hk => hk1.block k (HB6.out.typ k hk).1) (fun _ x => x))
                 have hg3 := hg2
                 rw [← HQV.out] at hg3 hor2
                 obtain ⟨n1, n2, ⟨n3, n4, n5, n6⟩, n7, n8⟩ := app_facts HB1.out ho2 hg3 hor2
                 have n9 : w7.cell? ⟨g, rest.length * 5 + 3, none⟩ = some (.slice QA p'.kids.length QC) := (n8 _).trans (z3a _)
                 have n11 : ¬ (g = g') := fun e => n1 e.symm
                 have HO2 := hide ho2
                 have HG2 := hide hg3
                 have HOR := hide hor2
                 clear ho2 hg2 hg3 hor2 hc2 hm2 n8 hk1))
            all_goals
              first | rw [kid_comm w7 n11] | skip
              have hb8 := HB1.out.kidWritten (q := ((⟨t.name, t.attrs, []⟩, .nil), (.slice A t.attrs.length c, .slice none 0 0))) HO2.out HG2.out HOR.out ⟨HA7.out, .inl ⟨rfl, rfl⟩⟩
              simp only at hb8
              rw [← HNM.out] at hb8
              have HB8 := hide hb8
              clear hb8
              go_wp2_with fail
              try simp only [Exit.inBlock, Exit.then]
              refine bodyPost_ret (results_none rfl _ _ _) rfl ?_
              refine ⟨rfl, C3, _, _, by rw [if_neg HN5.out]; exact HON.out _ _ _ _ _ HB8.out, ?_, ?_⟩
              · rw [if_neg HN5.out, ← HE2.out.1]
                show _ = (putP t (p.toL :: toLs rest) n).1
                rw [putP_cons, if_pos HCD.out, ← HP.out]
                simp [toLs, PartV.toL]
              · intro x hx
                rcases List.mem_cons.1 hx with rfl | hx
                · exact HTP.out
                · exact HT2.out x (List.mem_cons_of_mem _ hx)
          · have HCD : Hid (¬ (voidB t.name = true ∨ 30 < (p.toL :: toLs rest).length)) := hide (by
              rw [List.length_cons, toLs_length]
              exact fun e => e.elim (fun e => by rw [show voidB t.name = false from hvb] at e; cases e) hd)
            have d0 : decide ((30 : Int) < (rest.length : Int) + 1) = false := decide_eq_false (by omega)
            have cc0 := HB6.out.c0
            clear hv hvb hd
            refine (HV.out _).mono ?_
            rintro e w8 ⟨rfl, rfl⟩
            have hb7 := HB6.out
            have c0 := hb7.c0
            have f0 := hb7.free 0
            have c0a : ∀ ob, (W6.alloc ob).cell? ⟨b, 0, none⟩ = some (.slice (some ⟨g, 0, none⟩) (rest.length + 1) cap) := fun ob => ((below_one W6 ob).cell (World.block_lt_of_cell? _ _ c0)).trans c0
            obtain ⟨y0, y1, y2, y3⟩ := HBE.out
            clear hb7
            have HOWN : Hid (∀ W, Below W6.heap.size W6 W → W.ownsRow B 58 5 (.slice (some ⟨g, 0, none⟩) (rest.length + 1) cap) (p' :: rest).length (partVals (p' :: rest).reverse)) := hide fun W hW => (HB6.out.kept hW).row
            have y0a : ∀ ob, (W6.alloc ob).cell? ⟨w5.heap.size, 0, none⟩ = some (.string nm) := fun ob => ((below_one W6 ob).cell (World.block_lt_of_cell? _ _ y0)).trans y0
            have y1a : ∀ ob, (W6.alloc ob).cell? ⟨w5.heap.size, 1, none⟩ = some (.slice A t.attrs.length c) := fun ob => ((below_one W6 ob).cell (World.block_lt_of_cell? _ _ y1)).trans y1
            have y2a : ∀ ob, (W6.alloc ob).cell? ⟨w5.heap.size, 2, none⟩ = some (.string ⟨#[]⟩) := fun ob => ((below_one W6 ob).cell (World.block_lt_of_cell? _ _ y2)).trans y2
            have y3a : ∀ ob, (W6.alloc ob).cell? ⟨w5.heap.size, 3, none⟩ = some (.slice none 0 0) := fun ob => ((below_one W6 ob).cell (World.block_lt_of_cell? _ _ y3)).trans y3
            go_wp2_with fail
            go_region_law (first
              | (refine step_part rfl _ _ rfl B (.slice (some ⟨g, 0, none⟩) (rest.length + 1) cap) (p' :: rest) rfl (HOWN.out _ ?_) ?_ ⟨W6.heap.size, 0, none⟩ t.name t.attrs A c t.attrs.length rfl ((part_row _ _ _ _ _ _).1.trans (by rw [HNM.out])) (part_row _ _ _ _ _ _).2.1 (part_row _ _ _ _ _ _).2.2.1 (part_row _ _ _ _ _ _).2.2.2.1 (part_row _ _ _ _ _ _).2.2.2.2 (by have := HRL.out; simp only [List.length_cons]; omega) ?_
                 · exact ((Below.refl _ _).alloc (Nat.le_refl _) _).drew
                 · exact Nat.le_trans HB6.out.size (((Below.refl W6.heap.size W6).alloc (Nat.le_refl _) _).drew).size
                 intro v' w7 ho2 hg2
                 obtain ⟨ao, n', c', rfl⟩ : ∃ ao n' c', v' = .slice ao n' c' := by
                   rcases ho2.2 with ⟨hv, _⟩ | ⟨g0, c0, cur, hv, _⟩
                   · exact ⟨_, _, _, hv⟩
                   · exact ⟨_, _, _, hv⟩
                 have hk1 : Below W6.heap.size W6 (W6.alloc (.cells #[.string nm, .slice A t.attrs.length c, .string ⟨#[]⟩, .slice none 0 0, .slice none 0 0] 58)).drew := ((Below.refl W6.heap.size W6).alloc (Nat.le_refl _) _).drew
                 have HB1 := hide (HB6.out.kept hk1)
                 have HA7 := hide (HA6.out.mono (C' := C3) (fun k hk => hk1.block k (HB6.out.typ k hk).1) (fun _ x => x))
                 have hbb := HB1.out.blk
                 have hbg : w7.heap[b]? = _ := (hg2.block b (lt_of_block hbb) (fun e => (ownsRow_other HB1.out.row (r := b) (fun cur hx => HB1.out.out.2 cur _ (by decide) hx)) e.symm)).trans hbb
                 have n9 : w7.cell? ⟨b, 0, none⟩ = some (.slice (some ⟨g, 0, none⟩) (rest.length + 1) cap) := by rw [Lib.cell_of_heap hbg]; rfl
                 have n10 : w7.frozen? ⟨b, 0, none⟩ = false := Lib.frozen_of_heap hbg 0
                 have HO2 := hide ho2
                 have HG2 := hide hg2
                 clear ho2 hg2 hk1 hbb hbg))
            all_goals
              have hb8 := HB1.out.pushPart t.name t.attrs (.slice A t.attrs.length c) HA7.out HQT.out HO2.out HG2.out
              have HB8 := hide hb8
              clear hb8
              go_wp2_with fail
              go_end0
              refine ⟨rfl, C3, _, _, by rw [if_neg HN5.out]; exact HON.out _ _ _ _ _ HB8.out, ?_, ?_⟩
              · rw [if_neg HN5.out, ← HE2.out.1]
                show _ = (putP t (p.toL :: toLs rest) n).1
                rw [putP_cons, if_neg HCD.out, ← HP.out]
                simp [toLs, PartV.toL]
              · intro x hx
                rcases List.mem_cons.1 hx with rfl | hx
                · exact Nat.zero_le _
                · rcases List.mem_cons.1 hx with rfl | hx
                  · exact HTP.out
                  · exact HT2.out x (List.mem_cons_of_mem _ hx)
end Go.Proofs.YtiejmkjpgjbodaaGreatDoor
