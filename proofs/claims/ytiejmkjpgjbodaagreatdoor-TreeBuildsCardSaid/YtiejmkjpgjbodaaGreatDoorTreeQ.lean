import Derived.Test.YtiejmkjpgjbodaaGreatDoorTreeL
import Derived.Test.YtiejmkjpgjbodaaGreatDoorBaseO
namespace Go.Proofs.YtiejmkjpgjbodaaGreatDoor
open Go.RowKit
set_option linter.unusedVariables false
set_option linter.unusedSimpArgs false
set_option maxRecDepth 100000
def closeB (is : List UInt8 → Bool) (s : List PartL) : List PartL := match findP is s with
  | none => s
  | some k => closeN k s
def AskAt (K bt : Nat) (nm : ByteArray) (is : List UInt8 → Bool) : Prop :=
  ∀ (w1 : World) (g o : Nat) (x : List UInt8), w1.cell? ⟨bt, 1, none⟩ = some (.string nm) → w1.cell? ⟨g, o, none⟩ = some (.string (str x)) →
    Calls Tryz.prog K #[.pointer (some ⟨g, o, none⟩), .pointer (some ⟨bt, 0, none⟩)] w1 fun e w' => e = .returned (.bool (is x)) ∧ ∃ m, w' = w1.drewN m
theorem findP_cons {is : List UInt8 → Bool} (p q : PartL) (r : List PartL) : findP is (p :: q :: r) = if is p.name = true then some 1 else if wallB p.name = true then none else (findP is (q :: r)).map (· + 1) := rfl
def AskedC (is : List UInt8 → Bool) (st : List PartV) (k : Nat) : Prop := ∃ pre p rest, st = pre ++ p :: rest ∧ rest.length = k ∧ findP is (toLs st) = (findP is (toLs (p :: rest))).map (· + pre.length)
theorem BS.cellOf {C : Nat → Prop} {B b g cap m : Nat} {pre : List PartV} {p : PartV} {rest : List PartV} {n : Nat} {W0 w : World} (h : BS C B b (.slice (some ⟨g, 0, none⟩) m cap) (pre ++ p :: rest) n W0 w) : w.cell? ⟨g, rest.length * 5, none⟩ = some (.string (str p.name)) := by
  have hr := h.row
  have e1 := partVals_at rest.reverse p 0 (by decide) pre.reverse
  rw [List.length_reverse] at e1
  have e2 : (partVals (pre ++ p :: rest).reverse)[rest.length * 5 + 0]? = some (.string (str p.name)) := by
    rw [List.reverse_append, List.reverse_cons, List.append_assoc, List.singleton_append]
    exact e1
  have := hr.cells (g := g) rfl _ _ e2
  rw [Addr.add_lit, Nat.zero_add, Nat.add_zero] at this
  exact this
set_option maxHeartbeats 16000000 in
theorem close_gen (K bt : Nat) (nm : ByteArray) (is : List UInt8 → Bool) (hK : ∀ args w, (callFunc K args).run Tryz.prog w = .ok (.enter K args) w) (hask : AskAt K bt nm is)
    (C : Nat → Prop) (B b : Nat) (r : Value) (st : List PartV) (n : Nat) (W0 w : World) (h : BS C B b r st n W0 w) (hs : st ≠ []) (hw : stW (toLs st) ≤ 5000) (htl : ∀ p ∈ st, p.tail.length ≤ 70368744177664) (hl : st.length ≤ 1000000) (hbt : w.cell? ⟨bt, 1, none⟩ = some (.string nm)) :
    Calls Tryz.prog 36 #[.pointer (some ⟨b, 0, none⟩), .func (.func K) #[] #[.pointer (some ⟨bt, 0, none⟩)]] w fun e w' => e = .returned (.bool (findP is (toLs st)).isSome) ∧
      ∃ st', (∃ C' r', BS C' B b r' st' n W0 w') ∧ toLs st' = closeB is (toLs st) ∧ ∀ p ∈ st', p.tail.length ≤ 70368744177664 := by
  obtain ⟨g, cap, rfl, i1, i2, i3, i4⟩ := h.form hs
  have c0 := h.c0
  obtain ⟨M, hM⟩ : ∃ M, st.length = M + 1 := ⟨st.length - 1, by have := List.length_pos_iff.2 hs; omega⟩
  have HB := hide h
  have HS : Hid (AskedC is st M) := hide (by
    match st, hs, hM with
    | p :: rest, _, hM => exact ⟨[], p, rest, rfl, by simpa using hM, by simp⟩)
  have HQ := hide (And.intro hw (And.intro htl hl))
  have HASK := hide hask
  have HBT := hide hbt
  have HM := hide hM
  rw [hM] at c0
  have hM2 : M ≤ 1000000 := by omega
  have tn1 : wrap64 ((M : Int) + 1 - 1) = (M : Int) := by unfold wrap64; omega
  clear h hs hw htl hl hask hbt i1 i2 i3 i4 hM
  go_enter Tryz.func36, Tryz.ntmps36
  go_wp2_with fail
  go_loopg [5] M (fun gk i wr => gk ≤ M ∧ i = .int .i64 gk ∧ Hid (∃ m, wr = w.drewN m) ∧ Hid (AskedC is st gk))
  case atStart => exact ⟨Nat.le_refl _, by first | rfl | (congr 1; omega), hide ⟨0, rfl⟩, HS.out⟩
  case round =>
    obtain ⟨hgk, rfl, HD, HA⟩ := hrel
    obtain ⟨m, rfl⟩ := HD.out
    have hbw : ∀ q, Below w.heap.size w (w.drewN q) := fun q => ⟨rfl, rfl, rfl, Nat.le_refl _, fun _ _ => rfl⟩
    cases gk with
    | zero =>
      have hf : findP is (toLs st) = none := by
        obtain ⟨pre, p, rest, h1, h2, h3⟩ := HA.out
        have := List.eq_nil_of_length_eq_zero h2
        subst this
        rw [h3]; rfl
      have HE : Hid ((findP is (toLs st)).isSome = false ∧ ∃ st', (∃ C' r', BS C' B b r' st' n W0 (w.drewN m)) ∧ toLs st' = closeB is (toLs st) ∧ ∀ p ∈ st', p.tail.length ≤ 70368744177664) := hide ⟨by rw [hf]; rfl, st, ⟨C, _, HB.out.kept (hbw m)⟩, by unfold closeB; rw [hf], HQ.out.2.1⟩
      have t0 : decide ((0 : Int) < ((0 : Nat) : Int)) = false := by decide
      clear hf HA HD
      go_wp2_with fail
      go_ret
      rw [HE.out.1]
      exact ⟨rfl, HE.out.2⟩
    | succ k =>
      have t0 : decide ((0 : Int) < ((k + 1 : Nat) : Int)) = true := decide_eq_true (by omega)
      have t1 : (k : Int) + 1 < (M : Int) + 1 := by omega
      have t2 : (0 : Int) ≤ (k : Int) + 1 := by omega
      have t3 : ((k : Int) + 1).toNat = k + 1 := by omega
      obtain ⟨pre, p, rest, e1, e2, e3⟩ := HA.out
      obtain ⟨q, rest, rfl⟩ : ∃ q r, rest = q :: r := by
        cases rest with
        | nil => simp at e2
        | cons q r => exact ⟨q, r, rfl⟩
      have hk : rest.length = k := by simpa using e2
      have hpl : pre.length + k + 1 = M := by
        have := HM.out
        rw [e1] at this
        simp only [List.length_append, List.length_cons] at this
        omega
      have hc := HB.out.kept (hbw m)
      rw [e1] at hc
      have hcell : (w.drewN m).cell? ⟨g, (k + 1) * 5, none⟩ = some (.string (str p.name)) := by
        have := BS.cellOf hc
        rw [e2] at this
        exact this
      have HC := hide hcell
      have hfc : findP is (toLs (p :: q :: rest)) = if is p.name = true then some 1 else if wallB p.name = true then none else (findP is (toLs (q :: rest))).map (· + 1) := findP_cons p.toL q.toL (toLs rest)
      have HAK := hide (HASK.out (w.drewN m) g ((k + 1) * 5) p.name HBT.out hcell)
      obtain ⟨X, hX⟩ : ∃ X, X = str p.name := ⟨_, rfl⟩
      have hcw : w.cell? ⟨g, (k + 1) * 5, none⟩ = some (.string X) := by rw [hX]; exact hcell
      clear hcell
      cases hi : is p.name with
      | true =>
        rw [hi] at HAK
        rw [hfc, if_pos hi] at e3
        have hfs : findP is (toLs st) = some (pre.length + 1) := by rw [e3]; simp; omega
        have hln : st.length - (k + 1) = pre.length + 1 := by have := HM.out; omega
        have HF := hide (fun q => by
          have := closeFrom_any C B b _ st n (k + 1) W0 (w.drewN q) (HB.out.kept (hbw q)) (by omega) (by have := HM.out; omega) HQ.out.1 HQ.out.2.1 HQ.out.2.2
          rw [show ((k + 1 : Nat) : Int) = (k : Int) + 1 by omega] at this
          exact this)
        have HE : Hid ((findP is (toLs st)).isSome = true ∧ closeB is (toLs st) = closeN (st.length - (k + 1)) (toLs st)) := hide ⟨by rw [hfs]; rfl, by unfold closeB; rw [hfs, hln]⟩
        clear e1 e2 e3 hk hpl hc hfc hi hfs hln HA HD hX
        go_wp2_with fail
        refine HAK.out.mono ?_
        rintro e w1 ⟨rfl, mm, rfl⟩
        go_wp2_with fail
        refine (HF.out _).mono ?_
        rintro e w2 ⟨rfl, hE⟩
        have HEE := hide hE
        clear hE
        go_wp2_with fail
        go_ret
        rw [HE.out.1, HE.out.2]
        exact ⟨rfl, HEE.out⟩
      | false =>
        rw [hi] at HAK
        rw [hfc, if_neg (by rw [hi]; exact Bool.false_ne_true)] at e3
        have hzz : str p.name = X := hX.symm
        cases hw : wallB p.name with
        | true =>
          rw [if_pos hw] at e3
          have hfs : findP is (toLs st) = none := by rw [e3]; rfl
          have HW : Hid (∀ w, Calls Tryz.prog 87 #[.string X] w fun e w' => e = .returned (.bool true) ∧ w = w') := hide fun w => by
            have := isWall_any X w
            rw [hX, str_toList, show wallL.contains p.name = true from hw, ← hX] at this
            exact this
          have HE : Hid ((findP is (toLs st)).isSome = false ∧ ∀ q, ∃ st', (∃ C' r', BS C' B b r' st' n W0 (w.drewN q)) ∧ toLs st' = closeB is (toLs st) ∧ ∀ p ∈ st', p.tail.length ≤ 70368744177664) := hide ⟨by rw [hfs]; rfl, fun q => ⟨st, ⟨C, _, HB.out.kept (hbw q)⟩, by unfold closeB; rw [hfs], HQ.out.2.1⟩⟩
          clear e1 e2 e3 hk hpl hc hfc hi hfs hw HA HD hX hzz
          go_wp2_with fail
          refine HAK.out.mono ?_
          rintro e w1 ⟨rfl, mm, rfl⟩
          go_wp2_with fail
          refine (HW.out _).mono ?_
          rintro e w2 ⟨rfl, rfl⟩
          go_wp2_with fail
          go_ret
          rw [HE.out.1]
          exact ⟨rfl, HE.out.2 _⟩
        | false =>
          rw [if_neg (by rw [hw]; exact Bool.false_ne_true)] at e3
          have HW : Hid (∀ w, Calls Tryz.prog 87 #[.string X] w fun e w' => e = .returned (.bool false) ∧ w = w') := hide fun w => by
            have := isWall_any X w
            rw [hX, str_toList, show wallL.contains p.name = false from hw, ← hX] at this
            exact this
          have HN : Hid (AskedC is st k) := hide ⟨pre ++ [p], q, rest, by rw [e1]; simp, hk, by
            rw [e3, Option.map_map, List.length_append]
            congr 1
            funext z
            simp only [Function.comp_apply, List.length_cons, List.length_nil]
            omega⟩
          have tk1 : wrap64 ((k : Int) + 1 - 1) = (k : Int) := by unfold wrap64; omega
          have HKM := hide (show k ≤ M by omega)
          clear e1 e2 e3 hk hpl hc hfc hi hw HA HD hX hzz
          go_wp2_with fail
          refine HAK.out.mono ?_
          rintro e w1 ⟨rfl, mm, rfl⟩
          go_wp2_with fail
          refine (HW.out _).mono ?_
          rintro e w2 ⟨rfl, rfl⟩
          go_wp2_with fail
          go_roundg k
          case rel => exact ⟨HKM.out, by first | rfl | (congr 1; omega), hide ⟨m + mm, by first | rfl | rw [World.drewN_drewN]⟩, HN⟩
          case measure => omega
end Go.Proofs.YtiejmkjpgjbodaaGreatDoor
