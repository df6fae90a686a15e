/- WALKS of the reference of layer 7: find, base, number. No statement is proved here. -/
import Derived.Test.YtienjpelmbldpaaGreatDoorParL
import Derived.Test.YtienjpelmbldpaaGreatDoorParO
import Derived.Test.YtienjpelmbldpaaGreatDoorBaseO
namespace Go.Proofs.YtienjpelmbldpaaGreatDoor
open Go.RowKit
set_option linter.unusedVariables false
set_option linter.unusedSimpArgs false
set_option maxRecDepth 100000
theorem below_drew7 (w : World) (n : Nat) : Below w.heap.size w (w.drewN n) := ⟨rfl, rfl, rfl, Nat.le_refl _, fun _ _ => rfl⟩
set_option maxHeartbeats 4000000 in
theorem find07_still (v : Value) (l : List ParL) (name : ByteArray) (w : World) (h : ParsIn w v l) (hl : l.length ≤ 1000000) :
    Calls Tryz.prog 29 #[v, .string name] w fun e w' => e = .returned (optV (getP l name.data.toList)) ∧ w = w' := by
  obtain ⟨A, cap, rfl⟩ := h.form
  have H := hide h
  clear h
  go_enter Tryz.func29, Tryz.ntmps29
  go_wp2_with fail
  go_loopw [6] (fun iv wr => ∃ k : Nat, k ≤ l.length ∧ iv = .int .i64 k ∧ Hid (wr = w) ∧ Hid (getP (l.drop k) name.data.toList = getP l name.data.toList)) (fun iv _ => l.length - (intOf iv).toNat)
  case atStart => exact ⟨0, Nat.zero_le _, rfl, hide rfl, hide rfl⟩
  case round =>
    obtain ⟨k, hk, rfl, HB, HG⟩ := hrel
    obtain rfl := HB.out
    have hk6 : k ≤ 1000000 := by omega
    by_cases hlt : k < l.length
    · obtain ⟨a, rfl, c0, c1⟩ := H.out.at k _ (List.getElem?_eq_getElem hlt)
      have hdr : l.drop k = l[k] :: l.drop (k + 1) := List.drop_eq_getElem_cons hlt
      have HG2 := HG.out
      rw [hdr] at HG2
      obtain ⟨p, hp⟩ : ∃ p, p = l[k]'hlt := ⟨_, rfl⟩
      rw [← hp] at c0 c1 HG2
      obtain ⟨P1, hP1⟩ : ∃ P1, P1 = str p.1 := ⟨_, rfl⟩
      obtain ⟨P2, hP2⟩ : ∃ P2, P2 = str p.2 := ⟨_, rfl⟩
      rw [← hP1] at c0
      rw [← hP2] at c1
      have HLT := hide hlt
      cases he : (p.1 == name.data.toList) with
      | true =>
        have t1 : (P1.toList == name.toList) = true := by rw [hP1, str_list, bytes_list]; exact he
        have HV : Hid (optV (getP l name.data.toList) = .tuple #[.string P2, .bool true]) := hide (by
          rw [← HG2]; unfold getP; rw [List.find?_cons_of_pos (by exact he), hP2]; rfl)
        clear he hdr HG2 hp hP1 hP2
        go_wp2_with fail
        go_ret2
        exact ⟨by rw [HV.out] <;> rfl, rfl⟩
      | false =>
        have t1 : (P1.toList == name.toList) = false := by rw [hP1, str_list, bytes_list]; exact he
        have HGN : Hid (getP (l.drop (k + 1)) name.data.toList = getP l name.data.toList) := hide (by
          rw [← HG2]; unfold getP; rw [List.find?_cons_of_neg (by rw [he]; decide)])
        clear he hdr HG2 hp hP1 hP2
        go_wp2_with fail
        go_roundw
        case rel => exact ⟨k + 1, HLT.out, by go_num, by first | exact trivial | exact hide rfl, HGN⟩
        case measure => simp [intOf]; have := HLT.out; omega
    · have HV : Hid (optV (getP l name.data.toList) = .tuple #[.string ⟨#[]⟩, .bool false]) := hide (by
        rw [← HG.out, List.drop_eq_nil_of_le (by omega)]; rfl)
      go_wp2_with fail
      go_ret2
      exact ⟨by rw [HV.out] <;> rfl, rfl⟩
theorem find07_any (v : Value) (l : List ParL) (name : ByteArray) (w : World) (h : ParsIn w v l) (hl : l.length ≤ 1000000) :
    Calls Tryz.prog 29 #[v, .string name] w fun e w' => e = .returned (optV (getP l name.data.toList)) ∧ Below w.heap.size w w' :=
  (find07_still v l name w h hl).mono (fun e w' h => ⟨h.1, by rw [← h.2]; exact Below.refl _ _⟩)
theorem base07_any (s : ByteArray) (w : World) (hs : s.size ≤ 1048576) :
    Calls Tryz.prog 25 #[.string s] w fun e w' => e = .returned (.string (str (beforeC 42 s.data.toList))) ∧ w = w' := by
  go_enter Tryz.func25, Tryz.ntmps25
  go_wp2_with fail
  go_loop [3] (fun iv => ∃ k : Nat, k ≤ s.size ∧ iv = .int .i64 k ∧ Hid (∀ c ∈ s.data.toList.take k, c ≠ 42)) (fun iv => s.size - (intOf iv).toNat)
  case atStart => exact ⟨0, Nat.zero_le _, rfl, hide (by simp)⟩
  case round =>
    obtain ⟨k, hk, rfl, HN⟩ := hrel
    by_cases hlt : k < s.size
    · by_cases h42 : s[k] = 42
      · have t0 : ((s[k].toNat : Int) == 42) = true := tT 42 h42 (by omega)
        have HE : Hid (str (beforeC 42 s.data.toList) = s.extract 0 k) := hide (by
          have e : s.data.toList = s.data.toList.take k ++ 42 :: s.data.toList.drop (k + 1) := by
            conv => lhs; rw [← List.take_append_drop k s.data.toList, drop_cons s k hlt, h42]
          have hn : (42 : UInt8) ∉ s.data.toList.take k := fun hm => HN.out 42 hm rfl
          rw [e, (cut_here 42 _ _ hn).1]
          apply ext_list
          rw [str_toList, extract_list, List.drop_zero])
        have k2 : (k : Int) ≤ s.size := by omega
        clear h42
        go_wp2_with fail
        go_ret
        exact ⟨by rw [HE.out]; rfl, rfl⟩
      · have t0 : ((s[k].toNat : Int) == 42) = false := tF 42 h42 (by omega)
        have HNN : Hid (∀ c ∈ s.data.toList.take (k + 1), c ≠ 42) := hide (by
          intro c hc
          rw [take_snoc s k hlt, List.mem_append, List.mem_singleton] at hc
          rcases hc with hc | rfl
          · exact HN.out c hc
          · exact h42)
        clear h42
        go_wp2_with fail
        go_round
        case rel => exact ⟨k + 1, by omega, by go_num, HNN⟩
        case measure => simp [intOf]; omega
    · have HE : Hid (str (beforeC 42 s.data.toList) = s) := hide (by
        have h1 := HN.out
        rw [List.take_of_length_le (by rw [toList_length]; omega)] at h1
        rw [(cut_none 42 _ (fun hm => h1 42 hm rfl)).1, str_of])
      go_wp2_with fail
      go_ret
      exact ⟨by rw [HE.out] <;> rfl, rfl⟩
theorem numP_lt (n : Nat) (h : n < 10) : numP n = [UInt8.ofNat (48 + n)] := by rw [numP_eq, Lib.decDigits, dif_pos h]
theorem numP_ge (n : Nat) (h : ¬ n < 10) : numP n = numP (n / 10) ++ [UInt8.ofNat (48 + n % 10)] := by rw [numP_eq, numP_eq, Lib.decDigits, dif_neg h]
set_option maxHeartbeats 4000000 in
theorem number07_any (n : Nat) : n ≤ 1000000 → ∀ w : World, Calls Tryz.prog 78 #[.int .i64 n] w fun e w' => e = .returned (.string (str (numP n))) ∧ Below w.heap.size w w' := by
  induction n using Nat.strongRecOn with
  | _ n ih =>
    intro hn w
    obtain ⟨D, hD⟩ : ∃ D, D = str [UInt8.ofNat (48 + n % 10)] := ⟨_, rfl⟩
    have hc := conv1 w (48 + (n : Int) % 10)
    rw [nums_str (l := [UInt8.ofNat (48 + n % 10)]) (by
      simp only [List.map_cons, List.map_nil]
      rw [show (48 + (n : Int) % 10).toNat = 48 + n % 10 by omega]), ← hD] at hc
    have hDz : D.size = 1 := by rw [hD]; rfl
    by_cases h : n < 10
    · have t0 : decide ((n : Int) < 10) = true := decide_eq_true (by omega)
      have HE : Hid (str (numP n) = D) := hide (by rw [numP_lt n h, hD, Nat.mod_eq_of_lt h])
      clear ih hD h
      go_enter Tryz.func78, Tryz.ntmps78
      go_wp2_with fail
      go_ret
      exact ⟨by rw [HE.out] <;> rfl, (Below.refl _ _).alloc (Nat.le_refl _) _⟩
    · have t0 : decide ((n : Int) < 10) = false := decide_eq_false (by omega)
      have CI := hide (fun (w : World) => ih (n / 10) (by omega) (by omega) w)
      obtain ⟨P, hP⟩ : ∃ P, P = str (numP (n / 10)) := ⟨_, rfl⟩
      rw [← hP] at CI
      have hPz : P.size ≤ 100 := by rw [hP, str_size]; have := numP_len (n / 10) (by omega); omega
      have HE : Hid (str (numP n) = P ++ D) := hide (by rw [numP_ge n h, hD, hP, ← str_append])
      have q1 : IntKind.i64.wrap ((n : Int) / 10) = ((n / 10 : Nat) : Int) := by rw [IntWalk.i64_in _ (by omega)]; omega
      clear ih hD h hP
      go_enter Tryz.func78, Tryz.ntmps78
      go_wp2_with (go_at_call 78; refine (CI.out _).mono ?_; rintro e w2 ⟨rfl, hb2⟩; have HB2 := hide (((Below.refl w.heap.size w).alloc (Nat.le_refl _) _).trans (hb2.mono (by rw [World.size_alloc]; omega))); clear hb2)
      go_ret
      exact ⟨by rw [HE.out] <;> rfl, HB2.out⟩
end Go.Proofs.YtienjpelmbldpaaGreatDoor
