/- WALK of strings.makeGenericReplacer at ent.Text's eight texts. No statement is proved here. -/
import Derived.Test.YtgokefodmjhhiaaGreatDoorEntT
import Derived.StillTailTactics
namespace Go.Proofs.YtgokefodmjhhiaaGreatDoor
open Go.RowKit
set_option linter.unusedVariables false
set_option linter.unusedSimpArgs false
set_option maxRecDepth 100000
theorem keyE_size (k : Nat) : 1 ≤ (keyE k).size ∧ (keyE k).size ≤ 2 := by
  match k with
  | 0 => decide
  | 1 => decide
  | 2 => decide
  | (k + 3) => exact ⟨Nat.le_succ 1, Nat.le_refl 2⟩
theorem keys_step (k : Nat) (hk : k < 4) : keysTo k ++ (keyE k).data.toList.map UInt8.toNat = keysTo (k + 1) := by
  match k, hk with
  | 0, _ => rfl
  | 1, _ => rfl
  | 2, _ => rfl
  | 3, _ => rfl
theorem inI_snoc (m : List Nat) (c : Nat) (j : Nat) : (if j = c then 1 else inI m j) = inI (m ++ [c]) j := by
  unfold inI
  by_cases h1 : j = c
  · simp [h1]
  · simp [h1, List.mem_append]
def markI (j : Nat) : Nat := inI [38, 60, 62, 194, 160] j
def mixI (k : Nat) (j : Nat) : Nat := if j < k then tabI j else markI j
theorem mix_step (k j : Nat) : (if j = k then tabI k else mixI k j) = mixI (k + 1) j := by
  unfold mixI
  by_cases h : j = k
  · subst h; rw [if_pos rfl, if_pos (Nat.lt_succ_self _)]
  · rw [if_neg h]
    by_cases h2 : j < k
    · rw [if_pos h2, if_pos (by omega)]
    · rw [if_neg h2, if_neg (by omega)]
theorem info_node : (Tryz.prog.info? 221).map (fun i => (i.zero, i.size, i.bytes)) = some (some (.pointer none), 1, 8) := by kernel_rfl
theorem made_five (w : World) : (Instr.makeSlice 222 (.int .i64 5) (.int .i64 5)).run Tryz.prog w = .ok (.slice (some ⟨w.heap.size, 0, none⟩) 5 5) (w.alloc (.cells #[.pointer none, .pointer none, .pointer none, .pointer none, .pointer none] 221)) := by
  obtain ⟨i0, hi, hz0, hz1, hz2⟩ := info_parts info_node
  have h := run_make (P := Tryz.prog) w 222 221 i0 _ Tryz.underlying222 hi hz0 .i64 .i64 5 5 (by omega) (by omega) (by rw [hz2]; omega) (by omega)
  rw [hz1] at h
  rw [h]
  have e : madeCells (Value.pointer none).cells (Int.toNat 5 * 1) = #[.pointer none, .pointer none, .pointer none, .pointer none, .pointer none] := by
    show madeCells #[Value.pointer none] 5 = _
    have e0 : Array.range 0 = (#[] : Array Nat) := by simp [Array.range]
    simp [madeCells, Array.range_succ, e0]
  rw [e]; rfl
theorem GSt.table {B G : Nat} {W0 w : World} {f : Nat → Nat} (h : GSt B W0 G 5 f w) (hB : B ≤ w.heap.size) (hf : ∀ c : UInt8, f c.toNat = mapC c) (t : TypeId) :
    TSt B W0 G w.heap.size 0 ((w.alloc (.cells #[.pointer none, .pointer none, .pointer none, .pointer none, .pointer none] t)).setCell ⟨G, 4, none⟩ (.slice (some ⟨w.heap.size, 0, none⟩) 5 5)) := by
  have hl := h.lt
  have hz := z_all w (.cells #[.pointer none, .pointer none, .pointer none, .pointer none, .pointer none] t)
  have og : ∀ i : Nat, i ≠ 4 → ((w.alloc (.cells #[.pointer none, .pointer none, .pointer none, .pointer none, .pointer none] t)).setCell ⟨G, 4, none⟩ (.slice (some ⟨w.heap.size, 0, none⟩) 5 5)).cell? ⟨G, i, none⟩ = w.cell? ⟨G, i, none⟩ := fun i hi => by
    rw [World.cell?_setCell_other _ _ _ _ (ne_off (Ne.symm hi)), World.cell?_alloc_past _ _ _ hl]
  have ot : ∀ i : Nat, ((w.alloc (.cells #[.pointer none, .pointer none, .pointer none, .pointer none, .pointer none] t)).setCell ⟨G, 4, none⟩ (.slice (some ⟨w.heap.size, 0, none⟩) 5 5)).cell? ⟨w.heap.size, i, none⟩ = (#[Value.pointer none, .pointer none, .pointer none, .pointer none, .pointer none] : Array Value)[i]? := fun i => by
    rw [World.cell?_setCell_other _ _ _ _ (ne_blk (by omega)), World.cell?_alloc_at _ _ _ _ rfl]
  refine ⟨(h.below.alloc hB _).setCell h.lo _, ⟨h.lo, hB, by omega, by rw [z_set, hz]; omega, by rw [z_set, hz]; omega, by rw [z_set, hz]; omega⟩, ⟨(og 0 (by omega)).trans h.c0, (og 1 (by omega)).trans h.c1, (og 2 (by omega)).trans h.c2, (og 3 (by omega)).trans h.c3, World.cell?_setCell_same _ _ _ ((World.cell?_alloc_past _ _ _ hl).trans h.c4)⟩, (og 5 (by omega)).trans h.c5, fun c => ?_, fun i => ?_, ot 3, fun j hj => ⟨fun h0 => absurd h0 (by omega), fun _ => ?_⟩, ⟨fun _ => ot 4, fun h0 => absurd h0 (by omega)⟩⟩
  · rw [og _ (by omega), h.cell c, hf c]
  · rw [World.frozen?_setCell]; exact World.frozen?_alloc_at _ _ _ _ rfl
  · match j, hj with
    | 0, _ => exact ot 0
    | 1, _ => exact ot 1
    | 2, _ => exact ot 2
theorem info_map : (Tryz.prog.info? 196).map (·.size) = some 256 := by kernel_rfl
theorem idx_map (f : Nat → Nat) (k : Nat) (hk : k < 256) (w : World) : (Instr.index 196 (.agg (mapL f).toArray) (.int .i64 (k : Int))).run Tryz.prog w = .ok (.int .u8 (f k)) w := by
  have hi : (0 : Int) ≤ (k : Int) ∧ (k : Int) < ((256 : Nat) : Int) := by omega
  have hc : (mapL f).toArray[k]? = some (.int .u8 (f k)) := by simp [mapL, hk]
  have hs : ∀ w, (sizeOf 5).run Tryz.prog w = .ok 1 w := fun _ => by kernel_rfl
  have ha : ∀ w, (isAgg 5).run Tryz.prog w = .ok false w := fun _ => by kernel_rfl
  have hp : ∀ w, (part 5 (mapL f).toArray k).run Tryz.prog w = .ok (.int .u8 (f k)) w := fun w => by
    simp only [part, Sem.run_bind, ha, Result.andThen_ok, hc]
    rfl
  simp only [Instr.index, asIntOf, Sem.run_bind, Sem.run_pure, Result.andThen_ok, run_underlying Tryz.underlying196, hs, Int.toNat_natCast, Nat.mul_one]
  rw [if_pos hi]
  simp only [Sem.run_bind, hs, Result.andThen_ok, Nat.mul_one]
  exact hp w
/-- the add of one key, whichever it is -/
theorem add_key (G T k : Nat) (B : Nat) (W0 w : World) (hk : k < 4) (h : TSt B W0 G T k w) (p : Int) (hp : p = 8 - 2 * (k : Int)) :
    Calls Tryz.prog 216 #[.pointer (some ⟨G, 0, none⟩), .string (keyE k), .string (valE k), .int .i64 p, .pointer (some ⟨G, 0, none⟩)] w fun e w' => e = .returned (.tuple #[]) ∧ TSt B W0 G T (k + 1) w' := by
  subst hp
  obtain ⟨l1, l2, l3, l4, l5, l6⟩ := h.lo
  by_cases h3 : k < 3
  · have h1 : (keyE k).size = 1 := by
      match k, h3 with
      | 0, _ => rfl
      | 1, _ => rfl
      | 2, _ => rfl
    have hm : mapC ((keyE k)[0]'(by omega)) = k := by
      match k, h3 with
      | 0, _ => rfl
      | 1, _ => rfl
      | 2, _ => rfl
    refine (add_one G T k (keyE k) (valE k) (8 - 2 * (k : Int)) w h1 l5 (by omega) h.root.2.2.1 h.root.2.2.2.2 (by rw [h.map, hm]) ((h.old k h3).2 (Nat.le_refl _)) (h.fr k) l3).mono ?_
    rintro e w' ⟨he, hh, hn⟩
    exact ⟨he, h.one h3 hh hn⟩
  · obtain rfl : k = 3 := by omega
    refine (add_two G T 4 (keyE 3) (valE 3) (8 - 2 * ((3 : Nat) : Int)) w rfl l5 (by omega) h.root.2.2.1 h.root.2.2.2.2 (by rw [h.map]; rfl) (h.t4.1 (Nat.le_refl _)) (h.fr 4) l3).mono ?_
    rintro e w' ⟨he, hh, h4, h5, hz⟩
    exact ⟨he, h.last hh h4 h5 hz⟩
set_option maxHeartbeats 4000000 in
theorem makeGen_any (g c : Nat) (w : World) (hg : OldNewE g w) :
    Calls Tryz.prog 190 #[.slice (some ⟨g, 0, none⟩) 8 c] w fun e w' => e = .returned (.pointer (some ⟨w.heap.size, 0, none⟩)) ∧ TrieX w.heap.size w.heap.size w' ∧ Below w.heap.size w w' := by
  have hgl : g < w.heap.size := World.block_lt_of_cell? w _ (hg 0 (by omega)).1
  have HG := hide hg
  have HN : Hid (GSt w.heap.size w w.heap.size 0 (inI (keysTo 0)) (w.alloc (.cells Tryz.zeroCells226 226))) := hide ((GSt.new w).ext (fun _ _ => rfl))
  clear hg
  go_enter Tryz.func190, Tryz.ntmps190
  go_wp2_with fail
  go_loopw [4] (fun iv wr => ∃ k n : Nat, k ≤ 4 ∧ n = 2 * k ∧ iv = .int .i64 n ∧ Hid (GSt w.heap.size w w.heap.size 0 (inI (keysTo k)) wr)) (fun iv _ => 8 - (intOf iv).toNat)
  case atStart => exact ⟨0, 0, by omega, rfl, rfl, HN⟩
  case round =>
    obtain ⟨k, n, hk, hn, rfl, HS⟩ := hrel
    by_cases hlt : k < 4
    · have n8 : (n : Int) < 8 := by omega
      have ck : wr.cell? ⟨g, n, none⟩ = some (.string (keyE k)) := by rw [hn]; exact (HS.out.below.cell (p := ⟨g, 2 * k, none⟩) hgl).trans (HG.out k hlt).1
      obtain ⟨K, hK⟩ : ∃ K, K = keyE k := ⟨_, rfl⟩
      rw [← hK] at ck
      have HK := hide hK
      have HKN := hide (And.intro hlt hn)
      have hK2 : K.size ≤ 2 := by rw [hK]; exact (keyE_size k).2
      clear hK hn hlt hk
      go_wp2_with fail
      go_loopw [6] (fun jv wr => ∃ j : Nat, j ≤ K.size ∧ jv = .int .i64 j ∧ Hid (GSt w.heap.size w w.heap.size 0 (inI (keysTo k ++ (K.data.toList.take j).map UInt8.toNat)) wr)) (fun jv _ => K.size - (intOf jv).toNat)
      case atStart => exact ⟨0, Nat.zero_le _, rfl, by simpa using HS⟩
      case round =>
        obtain ⟨j, hj, rfl, HS2⟩ := hrel
        by_cases hjl : j < K.size
        · have b1 : K[j].toNat < 256 := chr_lt _
          have b2 : (K[j].toNat : Int) < 256 := by omega
          have cc := HS2.out.cell K[j]
          have ff := HS2.out.fr (6 + K[j].toNat)
          have HS3 : Hid (∀ q, GSt w.heap.size w w.heap.size 0 (inI (keysTo k ++ (K.data.toList.take (j + 1)).map UInt8.toNat)) ((wr.drewN q).setCell ⟨w.heap.size, 6 + K[j].toNat, none⟩ (.int .u8 1))) := hide fun q => by
            rw [take_snoc K j hjl, List.map_append, ← List.append_assoc]
            exact ((HS2.out.drewN q).put K[j].toNat 1 b1).ext (fun i _ => inI_snoc _ _ i)
          go_wp2_with fail
          go_region
          all_goals
            go_wp2_with fail
            go_roundw
            case rel => exact ⟨j + 1, by omega, by go_num, hide (HS3.out 1)⟩
            case measure => simp [intOf]; omega
        · have hje : j = K.size := by omega
          have HS4 : Hid (GSt w.heap.size w w.heap.size 0 (inI (keysTo (k + 1))) wr) := hide (by
            have := HS2.out
            rw [hje, ← toList_length, List.take_length, HK.out, keys_step k HKN.out.1] at this
            exact this)
          go_wp2_with fail
          go_roundw
          case rel => exact ⟨k + 1, n + 2, by have := HKN.out.1; omega, by have := HKN.out.2; omega, by go_num, HS4⟩
          case measure => simp [intOf]; omega
    · obtain rfl : k = 4 := by omega
      have hn8 : n = 8 := by omega
      subst hn8
      have HS5 := hide HS.out
      have hmk := HS.out.range
      clear hk hlt HS
      go_wp2_with (refine wpList_load_mid rfl _ _ rfl w.heap.size 6 rfl (mapL (inI (keysTo 4))) _ hmk Tryz.underlying196 rfl (by rw [mapL_length]; exact info_map) ?_)
      clear hmk
      go_loopw [41] (fun iv wr => ∃ k : Nat, k ≤ 256 ∧ iv = .int .i64 k ∧ Hid (GSt w.heap.size w w.heap.size (cntI k) (inI (keysTo 4)) wr)) (fun iv _ => 256 - (intOf iv).toNat)
      case atStart => exact ⟨0, by omega, rfl, HS5⟩
      case round =>
        obtain ⟨k, hk, rfl, HS⟩ := hrel
        by_cases hlt : k < 256
        · have hix := idx_map (inI (keysTo 4)) k hlt
          have c5 := HS.out.c5
          have f5 := HS.out.fr 5
          have hi2 := inI_two (keysTo 4) k
          have hcl := cnt_le k (by omega)
          have hst := cnt_step k hlt
          obtain ⟨b, hb⟩ : ∃ b, b = inI (keysTo 4) k := ⟨_, rfl⟩
          obtain ⟨m, hm⟩ : ∃ m, m = cntI k := ⟨_, rfl⟩
          have HN : Hid (GSt w.heap.size w w.heap.size (cntI (k + 1)) (inI (keysTo 4)) (wr.setCell ⟨w.heap.size, 5, none⟩ (.int .i64 ((m + b : Nat) : Int)))) := hide (by
            have e : m + b = cntI (k + 1) := by rw [hb, hm]; exact hst.symm
            rw [e]; exact HS.out.count _)
          rw [← hb] at hix hi2
          rw [← hm] at c5 hcl
          have x1 : IntKind.i64.wrap (b : Int) = b := IntWalk.i64_in _ (by omega)
          have x2 : IntKind.i64.wrap ((m : Int) + (b : Int)) = ((m + b : Nat) : Int) := by rw [IntWalk.i64_in _ (by omega)]; omega
          have k0 : (k : Int) < 256 := by omega
          clear hst hi2 hcl hb hm
          go_wp2_with fail
          go_roundw
          case rel => exact ⟨k + 1, by omega, by go_num, HN⟩
          case measure => simp [intOf]; omega
        · obtain rfl : k = 256 := by omega
          have HS6 : Hid (GSt w.heap.size w w.heap.size 5 (mixI 0) wr) := hide (HS.out.ext (fun j _ => by unfold mixI; rw [if_neg (by omega)]; rfl))
          have hmk : wr.rangeAt w.heap.size 6 (mapL (inI (keysTo 4))) := HS.out.range
          clear hk hlt HS HS5
          go_wp2_with (refine wpList_load_mid rfl _ _ rfl w.heap.size 6 rfl (mapL (inI (keysTo 4))) _ hmk Tryz.underlying196 rfl (by rw [mapL_length]; exact info_map) ?_)
          clear hmk
          go_loopw [9, 58] (fun xv iv wr => ∃ k m : Nat, k ≤ 256 ∧ m = cntI k ∧ iv = .int .i64 k ∧ xv = .int .u8 m ∧ Hid (GSt w.heap.size w w.heap.size 5 (mixI k) wr)) (fun _ iv _ => 256 - (intOf iv).toNat)
          case atStart => exact ⟨0, 0, by omega, rfl, rfl, rfl, HS6⟩
          case round =>
            obtain ⟨k, m, hk, hm, rfl, rfl, HS⟩ := hrel
            by_cases hlt : k < 256
            · have hix := idx_map (inI (keysTo 4)) k hlt
              have c5 : wr.cell? ⟨w.heap.size, 5, none⟩ = some (.int .i64 5) := HS.out.c5
              have c6 := HS.out.map k hlt
              have f6 := HS.out.fr (6 + k)
              have k0 : (k : Int) < 256 := by omega
              rcases inI_two (keysTo 4) k with hb | hb
              · rw [hb] at hix
                have ht : tabI k = 5 := by unfold tabI; rw [if_neg (by rw [show inI [38, 60, 62, 194, 160] k = 0 from hb]; decide)]
                have hm2 : m = cntI (k + 1) := by rw [cnt_step k hlt, show inI [38, 60, 62, 194, 160] k = 0 from hb]; exact hm
                have HN : Hid (∀ q, GSt w.heap.size w w.heap.size 5 (mixI (k + 1)) ((wr.drewN q).setCell ⟨w.heap.size, 6 + k, none⟩ (.int .u8 5))) := hide fun q => by
                  have := (HS.out.drewN q).put k 5 hlt
                  exact this.ext (fun j _ => by rw [← ht]; exact mix_step k j)
                clear hb ht hm
                go_wp2_with fail
                go_region
                all_goals
                  go_wp2_with fail
                  go_roundw
                  case rel => exact ⟨k + 1, m, by omega, hm2, by go_num, rfl, hide (HN.out 1)⟩
                  case measure => simp [intOf]; omega
              · rw [hb] at hix
                have ht : tabI k = m := by unfold tabI; rw [if_pos (show inI [38, 60, 62, 194, 160] k = 1 from hb)]; exact hm.symm
                have hm2 : m + 1 = cntI (k + 1) := by rw [cnt_step k hlt, show inI [38, 60, 62, 194, 160] k = 1 from hb, ← hm]
                have hml : m ≤ 5 := by rw [hm]; exact cnt_le k (by omega)
                have x1 : IntKind.u8.wrap ((m : Int) + 1) = ((m + 1 : Nat) : Int) := by rw [IntWalk.u8_in _ (by omega)]; omega
                have HN : Hid (GSt w.heap.size w w.heap.size 5 (mixI (k + 1)) (wr.setCell ⟨w.heap.size, 6 + k, none⟩ (.int .u8 m))) := hide (by
                  have := HS.out.put k m hlt
                  exact this.ext (fun j _ => by rw [← ht]; exact mix_step k j))
                clear hb ht hm hml
                go_wp2_with fail
                go_roundw
                case rel => exact ⟨k + 1, m + 1, by omega, hm2, by go_num, by go_num, HN⟩
                case measure => simp [intOf]; omega
            · obtain rfl : k = 256 := by omega
              have c5 : wr.cell? ⟨w.heap.size, 5, none⟩ = some (.int .i64 5) := HS.out.c5
              have c4 := HS.out.c4
              have f4 := HS.out.fr 4
              have hGl := HS.out.lt
              have hmf := made_five
              have HT0 := hide (HS.out.table HS.out.below.size (fun c => by unfold mixI; rw [if_pos (chr_lt c)]; exact tab_map c) 221)
              clear hk hlt HS HS6 hm
              go_wp2_with fail
              obtain ⟨T, hT⟩ : ∃ T, T = wr.heap.size := ⟨_, rfl⟩
              rw [← hT] at HT0
              have HTT := hide hT
              have HGL := hide hGl
              clear hmf c5 c4 f4 hGl hT
              go_loopw [12] (fun iv wr => ∃ k n : Nat, k ≤ 4 ∧ n = 2 * k ∧ iv = .int .i64 n ∧ Hid (TSt w.heap.size w w.heap.size T k wr)) (fun iv _ => 8 - (intOf iv).toNat)
              case atStart => exact ⟨0, 0, by omega, rfl, rfl, hide (by rw [← World.setCell_alloc_past _ _ _ _ HGL.out, ← HTT.out]; exact HT0.out)⟩
              case round =>
                obtain ⟨k, n, hk, hn, rfl, HS⟩ := hrel
                by_cases hlt : k < 4
                · have n8 : (n : Int) < 8 := by omega
                  have n7 : (n : Int) + 1 < 8 := by omega
                  have n6 : (0 : Int) ≤ (n : Int) + 1 := by omega
                  have x1 : IntKind.i64.wrap ((n : Int) + 1) = (n : Int) + 1 := IntWalk.i64_in _ (by omega)
                  have x2 : ((n : Int) + 1).toNat = n + 1 := by omega
                  have x3 : IntKind.i64.wrap (8 - (n : Int)) = 8 - (n : Int) := IntWalk.i64_in _ (by omega)
                  have ck : wr.cell? ⟨g, n, none⟩ = some (.string (keyE k)) := by rw [hn]; exact (HS.out.below.cell (p := ⟨g, 2 * k, none⟩) hgl).trans (HG.out k hlt).1
                  have cv : wr.cell? ⟨g, n + 1, none⟩ = some (.string (valE k)) := by rw [hn]; exact (HS.out.below.cell (p := ⟨g, 2 * k + 1, none⟩) hgl).trans (HG.out k hlt).2
                  obtain ⟨K, hK⟩ : ∃ K, K = keyE k := ⟨_, rfl⟩
                  obtain ⟨V, hV⟩ : ∃ V, V = valE k := ⟨_, rfl⟩
                  rw [← hK] at ck
                  rw [← hV] at cv
                  have HAD := hide (fun q => by
                    have := add_key w.heap.size T k w.heap.size w (wr.drewN q) hlt ⟨HS.out.1.trans ⟨rfl, rfl, rfl, Nat.le_refl _, fun _ _ => rfl⟩, HS.out.2, HS.out.3, HS.out.4, HS.out.5, HS.out.6, HS.out.7, HS.out.8, HS.out.9⟩ (8 - (n : Int)) (by rw [hn]; omega)
                    rw [← hK, ← hV] at this
                    exact this)
                  have HKN := hide (And.intro hlt hn)
                  clear hK hV hlt hn hk HS
                  go_wp2_with fail
                  go_still_tail 17, (by kernel_rfl)
                  change wpList _ _ _ _ _ wr.drew
                  go_wp2_with (go_at_call 216; refine (HAD.out 1).mono ?_; rintro e w5 ⟨rfl, hs5⟩; have HS5 := hide hs5; clear hs5)
                  refine ⟨⟨_, _, _, _, _, _, _, _, _, _, _, _, _, _, _, _, _, _, _, _, _, _, _, _, _, ?_, rfl⟩, ?_⟩
                  · exact ⟨k + 1, n + 2, by have := HKN.out.1; omega, by have := HKN.out.2; omega, by go_num, HS5⟩
                  · simp [intOf]; omega
                · obtain rfl : k = 4 := by omega
                  obtain rfl : n = 8 := by omega
                  clear hk hlt hn
                  go_wp2_with fail
                  go_ret
                  exact ⟨rfl, HS.out.trie, HS.out.below⟩
end Go.Proofs.YtgokefodmjhhiaaGreatDoor
