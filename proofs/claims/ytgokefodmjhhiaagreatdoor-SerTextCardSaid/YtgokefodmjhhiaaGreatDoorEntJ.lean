/- WALK of (*strings.genericReplacer).WriteString at the trie of ent.Text. No statement is proved here. -/
import Derived.Test.YtgokefodmjhhiaaGreatDoorBaseP
namespace Go.Proofs.YtgokefodmjhhiaaGreatDoor
open Go.RowKit
set_option linter.unusedVariables false
set_option linter.unusedSimpArgs false
set_option maxRecDepth 100000
theorem ahead_append (a : Addr) (w : World) : (nilAhead 392 280 (.pointer (some a)) "WriteString").run Tryz.prog w = .ok (some false) w := by kernel_rfl
/-- a round's state -/
def WSt (s : ByteArray) (B b i m : Nat) (N : Int) (W0 wr : World) : Prop := ∃ acc, WInv s.data.toList i m acc ∧ N = acc.length ∧ WBuf B b acc W0 wr
set_option maxHeartbeats 8000000 in
theorem gwrite_any (s : ByteArray) (B b G T n0 n1 n2 n4 n5 : Nat) (W0 w : World) (hT : Trie W0 G T n0 n1 n2 n4 n5) (hB : G < B ∧ T < B ∧ n0 < B ∧ n1 < B ∧ n2 < B ∧ n4 < B ∧ n5 < B) (hw : WBuf B b [] W0 w) (hs : s.size ≤ 17592186044416) :
    Calls Tryz.prog 281 #[.pointer (some ⟨G, 0, none⟩), .iface 280 (.pointer (some ⟨b, 0, none⟩)), .string s] w fun e w' => (∃ n, e = .returned (.tuple #[.int .i64 n, .nilIface])) ∧ WBuf B b (escG s.data.toList) W0 w' := by
  have HT := hide hT
  have HB := hide hB
  have HW0 := hide hw
  have HS := hide hs
  have hmt := meth_append
  have hmf : ∀ (fn : Fn) (first cap : Array Value) (w : World), (Instr.makeFunc fn first cap).run Tryz.prog w = .ok (.func fn first cap) w := fun _ _ _ _ => rfl
  have hna := ahead_append
  have HSL := hide (toList_length s)
  clear hT hB hw
  go_enter Tryz.func281, Tryz.ntmps281
  go_wp2_with (refine (getWriter_any b _).mono ?_; rintro e w1 ⟨rfl, rfl⟩)
  go_loopw [6, 7, 9, 10, 11, 12, 13, 14, 15, 16] (fun a6 a7 a9 _ a11 a12 _ _ _ _ wr => ∃ (i m : Nat) (N : Int), a12 = .int .i64 i ∧ a9 = .int .i64 m ∧ a6 = .int .i64 N ∧ a7 = .nilIface ∧ a11 = .bool false ∧ Hid (WSt s B b i m N W0 wr)) (fun _ _ _ _ _ a12 _ _ _ _ _ => s.size + 2 - (intOf a12).toNat)
  case atStart => exact ⟨0, 0, 0, rfl, rfl, rfl, rfl, rfl, hide ⟨[], ⟨Nat.le_refl _, by omega, by omega, by simp⟩, rfl, HW0.out⟩⟩
  case round =>
    obtain ⟨i, m, N, rfl, rfl, rfl, rfl, rfl, HST⟩ := hrel
    obtain ⟨hmi, hin, hmn⟩ : m ≤ i ∧ i ≤ s.size + 1 ∧ m ≤ s.size := by
      obtain ⟨acc, h, _, _⟩ := HST.out
      have := HSL.out
      exact ⟨h.1, by have := h.2.1; omega, by have := h.2.2.1; omega⟩
    have HTR : Hid (Trie wr G T n0 n1 n2 n4 n5) := hide (by
      obtain ⟨acc, _, _, h⟩ := HST.out
      exact HT.out.below h.below HB.out)
    obtain ⟨r0, r1, r2, r3, r4⟩ := HTR.out.root
    have rs := HTR.out.size
    by_cases h1 : i < s.size
    · have tA : decide ((i : Int) ≤ s.size) = true := decide_eq_true (by omega)
      have tB : ((i : Int) == s.size) = false := beq_eq_false_iff_ne.2 (by omega)
      have b1 : s[i].toNat < 256 := chr_lt _
      have b2 : (s[i].toNat : Int) < 256 := by omega
      have hd : s.data.toList.drop i = s[i] :: s.data.toList.drop (i + 1) := drop_cons s i h1
      by_cases hc : s[i] = 38 ∨ s[i] = 60 ∨ s[i] = 62 ∨ s[i] = 194
      · obtain ⟨j, nx, j5, hm1, hj⟩ := HTR.out.on hc
        have tj : ((j : Int) == 5) = false := beq_eq_false_iff_ne.2 (by omega)
        have j5' : (j : Int) < 5 := by omega
        clear hc
        cases hlk : lookL (s.data.toList.drop i) with
        | none =>
          have HN : ∀ w', Below wr.heap.size wr w' → Hid (WSt s B b (i + 1) m N W0 w') := fun w' hb => by
            obtain ⟨acc, h, hN, hW⟩ := HST.out
            exact hide ⟨acc, h.skip (by rw [HSL.out]; exact h1) hlk, hN, hW.kept hb⟩
          have HLK := hide (fun (w' : World) (h : Trie w' G T n0 n1 n2 n4 n5) => look_any (s.extract i s.size) G T n0 n1 n2 n4 n5 w' h)
          have HLV : Hid (lookV (lookL (s.extract i s.size).data.toList) = .tuple #[.string ⟨#[]⟩, .int .i64 0, .bool false]) := hide (by rw [extract_end, hlk]; rfl)
          clear hlk hd
          go_wp2_with fail
          go_quiet (fail)
          have HTQ : Trie (wr.drewN nq) G T n0 n1 n2 n4 n5 := HTR.out.drewN nq
          go_wp2_with (go_at_call 283; refine (HLK.out _ (by assumption)).mono ?_; rintro e w5 ⟨rfl, hb5⟩; rw [HLV.out]; have HB5 := hide hb5; clear hb5)
          go_roundw
          case rel => exact ⟨i + 1, m, N, by go_num, rfl, rfl, rfl, rfl, HN _ ((below_drewN _ _).trans HB5.out)⟩
          case measure => simp [intOf]; omega
        | some p =>
          obtain ⟨t, k⟩ := p
          have hp := lookL_some hlk
          obtain ⟨acc, hv, hNe, hW⟩ := HST.out
          have hlen := hv.len
          rw [HSL.out] at hlen
          have hh := hv.hit hlk
          rw [HSL.out] at hh
          have hik := hh.1
          have hk1 : 1 ≤ k := hp.1
          have tk : ((k : Int) == 0) = false := beq_eq_false_iff_ne.2 (by omega)
          have hE : (s.extract m i).data.toList = (s.data.toList.take i).drop m := extract_list s m i
          obtain ⟨E1, hE1⟩ : ∃ E1, E1 = s.extract m i := ⟨_, rfl⟩
          rw [← hE1] at hE
          have e1s : E1.size ≤ s.size := by rw [hE1]; have := extract_size_le s m i; omega
          obtain ⟨V, hV⟩ : ∃ V, V = str t := ⟨_, rfl⟩
          have vs : V.size ≤ 6 := by rw [hV, str_size]; exact hp.2.2.2.1
          have N0 : 0 ≤ N := by omega
          have Nb : N ≤ 105553116266496 := by omega
          have hl1 : acc.length + E1.size ≤ 140737488355328 := by omega
          have hl2 : (acc ++ E1.data.toList).length + V.size ≤ 140737488355328 := by rw [List.length_append, toList_length]; omega
          have HL1 := hide hl1
          have HL2 := hide hl2
          have HWA : Hid (∀ w', Below wr.heap.size wr w' → WBuf B b acc W0 w') := hide fun w' hb => hW.kept hb
          have HFIN : Hid (∀ w', WBuf B b (acc ++ E1.data.toList ++ V.data.toList) W0 w' → WSt s B b (i + k) (i + k) (N + E1.size + V.size) W0 w') := hide fun w' h => ⟨_, by rw [hE, hV, str_toList]; exact hh.2, by rw [List.length_append, List.length_append, toList_length, toList_length, hNe]; omega, h⟩
          have HLK := hide (fun (w' : World) (h : Trie w' G T n0 n1 n2 n4 n5) => look_any (s.extract i s.size) G T n0 n1 n2 n4 n5 w' h)
          have HLV : Hid (lookV (lookL (s.extract i s.size).data.toList) = .tuple #[.string V, .int .i64 k, .bool true]) := hide (by rw [extract_end, hlk, hV]; rfl)
          have HE1 : Hid (E1 = s.extract m i) := hide hE1
          clear hlk hd hp hv hNe hW hlen hh hE hE1 hV hl1 hl2 HST
          go_wp2_with fail
          go_quiet (fail)
          have HTQ : Trie (wr.drewN nq) G T n0 n1 n2 n4 n5 := HTR.out.drewN nq
          go_wp2_with (go_at_call 283; refine (HLK.out _ (by assumption)).mono ?_; rintro e w5 ⟨rfl, hb5⟩; rw [HLV.out]; have HB5 := hide hb5; clear hb5)
          go_region_with (go_at_call 293; rw [← HE1.out]; refine (appender_any B b acc E1 W0 _ (HWA.out _ (by first | exact (below_drewN _ _).trans HB5.out | exact ((below_drewN _ _).trans HB5.out).drew | exact (((below_drewN _ _).trans HB5.out).drew).drew)) HL1.out).mono ?_; rintro e w6 ⟨rfl, hW6⟩; have HW6 := hide hW6; clear hW6)
          all_goals
            try go_wp2_with (go_at_call 293; refine (appender_any B b (acc ++ E1.data.toList) V W0 _ HW6.out HL2.out).mono ?_; rintro e w7 ⟨rfl, hW7⟩; have HW7 := hide hW7; clear hW7)
            go_roundw
            case rel => exact ⟨i + k, i + k, N + E1.size + V.size, by go_num, by go_num, rfl, rfl, rfl, hide (HFIN.out _ HW7.out)⟩
            case measure => simp [intOf]; omega
      · have hlk : lookL (s.data.toList.drop i) = none := by rw [hd]; exact look_off hc
        have HN : ∀ w', Below wr.heap.size wr w' → Hid (WSt s B b (i + 1) m N W0 w') := fun w' hb => by
          obtain ⟨acc, h, hN, hW⟩ := HST.out
          exact hide ⟨acc, h.skip (by rw [HSL.out]; exact h1) hlk, hN, hW.kept hb⟩
        clear hlk hd
        by_cases h160 : s[i] = 160
        · have hm1 : wr.cell? ⟨G, 6 + s[i].toNat, none⟩ = some (.int .u8 3) := by rw [HTR.out.map s[i], h160]; rfl
          have t3 := HTR.out.t3
          clear hc h160
          go_wp2_with fail
          go_quiet (fail)
          go_wp2_with fail
          go_roundw
          case rel => exact ⟨i + 1, m, N, by go_num, rfl, rfl, rfl, rfl, HN _ (below_drewN _ _)⟩
          case measure => simp [intOf]; omega
        · have hm1 : wr.cell? ⟨G, 6 + s[i].toNat, none⟩ = some (.int .u8 5) := by
            rw [HTR.out.map s[i], mapC_none ⟨fun e => hc (.inl e), fun e => hc (.inr (.inl e)), fun e => hc (.inr (.inr (.inl e))), h160, fun e => hc (.inr (.inr (.inr e)))⟩]
            rfl
          clear hc h160
          go_wp2_with fail
          go_quiet (fail)
          go_wp2_with fail
          go_roundw
          case rel => exact ⟨i + 1, m, N, by go_num, rfl, rfl, rfl, rfl, HN _ (below_drewN _ _)⟩
          case measure => simp [intOf]; omega
    · by_cases h2 : i = s.size
      · have HN : ∀ w', Below wr.heap.size wr w' → Hid (WSt s B b (i + 1) m N W0 w') := fun w' hb => by
          obtain ⟨acc, h, hN, hW⟩ := HST.out
          rw [h2, ← HSL.out] at h ⊢
          exact hide ⟨acc, h.last, hN, hW.kept hb⟩
        have tA : decide ((i : Int) ≤ s.size) = true := decide_eq_true (by omega)
        have tB : ((i : Int) == s.size) = true := beq_iff_eq.2 (by omega)
        have hi1 : i ≤ s.size := by omega
        have HLV : Hid (lookV (lookL ByteArray.empty.data.toList) = .tuple #[.string ⟨#[]⟩, .int .i64 0, .bool false]) := hide rfl
        have H2 := hide h2
        clear h1 h2 HST
        go_wp2_with (go_at_call 283; refine (look_any ByteArray.empty G T n0 n1 n2 n4 n5 _ HTR.out).mono ?_; rintro e w5 ⟨rfl, hb5⟩; rw [HLV.out]; have HB5 := hide hb5; clear hb5)
        go_roundw
        case rel => exact ⟨i + 1, m, N, by rw [H2.out]; go_num, rfl, rfl, rfl, rfl, HN _ HB5.out⟩
        case measure =>
          have := H2.out
          simp [intOf]; omega
      · have h3 : i = s.size + 1 := by omega
        subst h3
        obtain ⟨acc, hv, hNe, hW⟩ := HST.out
        have hlen := hv.len
        rw [HSL.out] at hlen
        rw [← HSL.out] at hv
        have hf := hv.fin
        have tA : decide (((s.size + 1 : Nat) : Int) ≤ s.size) = false := decide_eq_false (by omega)
        have tA' : decide ((s.size : Int) + 1 ≤ s.size) = false := decide_eq_false (by omega)
        by_cases hms : m = s.size
        · have tm : ((m : Int) == s.size) = true := beq_iff_eq.2 (by omega)
          have HF : Hid (WBuf B b (escG s.data.toList) W0 wr) := hide (by
            rw [← hf, hms, List.drop_eq_nil_of_le (by rw [HSL.out]; exact Nat.le_refl _), List.append_nil]; exact hW)
          clear hv hNe hW hlen hf hms HST
          go_wp2_with fail
          go_ret2
          exact ⟨⟨_, rfl⟩, HF.out⟩
        · have tm : ((m : Int) == s.size) = false := beq_eq_false_iff_ne.2 (by omega)
          obtain ⟨E1, hE1⟩ : ∃ E1, E1 = s.extract m s.size := ⟨_, rfl⟩
          have e1s : E1.size ≤ s.size := by rw [hE1]; have := extract_size_le s m s.size; omega
          have N0 : 0 ≤ N := by omega
          have Nb : N ≤ 105553116266496 := by omega
          have HL1 : Hid (acc.length + E1.size ≤ 140737488355328) := hide (by omega)
          have HWA : Hid (∀ w', Below wr.heap.size wr w' → WBuf B b acc W0 w') := hide fun w' hb => hW.kept hb
          have HFIN : Hid (∀ w', WBuf B b (acc ++ E1.data.toList) W0 w' → WBuf B b (escG s.data.toList) W0 w') := hide fun w' h => by
            rw [hE1, extract_end, hf] at h; exact h
          have HE1 : Hid (E1 = s.extract m s.size) := hide hE1
          clear hv hNe hW hlen hf hms HST hE1
          go_wp2_with fail
          go_region_with (go_at_call 293; rw [← HE1.out]; refine (appender_any B b acc E1 W0 _ (HWA.out _ (by first | exact Below.refl _ _ | exact (Below.refl _ _).drew | exact (Below.refl _ _).drew.drew)) HL1.out).mono ?_; rintro e w6 ⟨rfl, hW6⟩; have HW6 := hide hW6; clear hW6)
          all_goals
            try go_wp2_with fail
            go_ret2
            exact ⟨⟨_, rfl⟩, HFIN.out _ HW6.out⟩
end Go.Proofs.YtgokefodmjhhiaaGreatDoor
