/- WALK of a page's String. No statement is proved here. Own work of the verifier. -/
import Derived.Test.YtdeaofnhdbhknaaPnW
import Derived.Test.YtdeaofnhdbhknaaPnU
import Derived.Laws.MakeOwn
namespace Go.Proofs.Ytdeaofnhdbhknaa
open Go.RowKit
set_option linter.unusedVariables false
set_option linter.unusedSimpArgs false
set_option maxRecDepth 100000
def rdr (l : List LnL) : List UInt8 := l.flatMap fun x => lineS x ++ [10]
theorem rdr_snoc (l : List LnL) (x : LnL) : rdr (l ++ [x]) = rdr l ++ lineS x ++ [10] := by unfold rdr; rw [List.flatMap_append, List.flatMap_singleton, List.append_assoc]
theorem rdr_take_le (l : List LnL) (k : Nat) : (rdr (l.take k)).length ≤ (rdr l).length := by
  have : rdr l = rdr (l.take k) ++ rdr (l.drop k) := by
    conv => lhs; rw [← List.take_append_drop k l]
    unfold rdr; rw [List.flatMap_append]
  rw [this, List.length_append]; omega
theorem rdr_mem (l : List LnL) (x : LnL) (h : x ∈ l) : (lineS x).length ≤ (rdr l).length := by
  induction l with
  | nil => cases h
  | cons y r ih =>
    have e : rdr (y :: r) = lineS y ++ [10] ++ rdr r := by unfold rdr; rw [List.flatMap_cons]
    rw [e, List.length_append, List.length_append]
    rcases List.mem_cons.1 h with rfl | h
    · omega
    · have := ih h; omega
set_option maxHeartbeats 4000000 in
theorem pageStr_any (B g j : Nat) (p : PgL) (ev lv : Value) (w : World) (h : PgW B g j p ev lv w) (hlen : (render p).length ≤ 4000000000000) :
    Calls Try.prog 30 #[.pointer (some ⟨g, j, none⟩)] w fun e w' => e = .returned (.string (str (render p))) ∧ Below w.heap.size w w' := by
  obtain ⟨Ae, ce, rfl⟩ := h.ln.form
  obtain ⟨Al, cl, rfl⟩ := h.bt.form
  have hr : (rdr p.1).length + p.2.length ≤ 4000000000000 := by unfold render at hlen; rw [List.length_append] at hlen; exact hlen
  have hnl : p.1.length ≤ (rdr p.1).length := by
    have h0 : ∀ l : List LnL, l.length ≤ (rdr l).length := fun l => by
      induction l with
      | nil => exact Nat.le_refl _
      | cons x r ih =>
        have e : rdr (x :: r) = lineS x ++ [10] ++ rdr r := by unfold rdr; rw [List.flatMap_cons]
        rw [e]; simp only [List.length_append, List.length_cons, List.length_nil]; omega
    exact h0 _
  have hb0 := below_one w (.cells #[.pointer none, .slice none 0 0] 81)
  have HBD : Hid (Bld w.heap.size w.heap.size [] w (w.alloc (.cells #[.pointer none, .slice none 0 0] 81))) := hide (Bld.new (Below.refl _ _) (Nat.le_refl _))
  obtain ⟨c0, -, -, -⟩ := (h.kept hb0).cells
  have H := hide h
  have HR := hide hr
  have HNL := hide hnl
  have HE : Hid (rdr p.1 ++ p.2 = render p) := hide rfl
  have hpl : p.1.length ≤ 4000000000000 := by omega
  clear h hr hnl hlen hb0
  go_enter Try.func30, Try.ntmps30
  go_wp2_with fail
  go_loopw [11] (fun i wr => ∃ (k : Nat), k ≤ p.1.length ∧ i = .int .i64 k ∧ Hid (Bld w.heap.size w.heap.size (rdr (p.1.take k)) w wr)) (fun i _ => p.1.length - (intOf i).toNat)
  case atStart => exact ⟨0, Nat.zero_le _, rfl, HBD⟩
  case round =>
    obtain ⟨k, hk, rfl, HB⟩ := hrel
    have hp1 := H.out.kept HB.out.2.1
    by_cases hlt : k < p.1.length
    · obtain ⟨x, hx⟩ : ∃ x, p.1[k]? = some x := ⟨_, List.getElem?_eq_getElem hlt⟩
      obtain ⟨a, rfl, -, hcap, hmax, hat⟩ := (LnRow.in hp1.ln).some (fun e => by rw [e] at hlt; simp at hlt)
      obtain ⟨d0, d1⟩ := hat.at hx
      have htk : rdr (p.1.take (k + 1)) = rdr (p.1.take k) ++ lineS x ++ [10] := by rw [List.take_add_one, hx]; exact rdr_snoc _ _
      have hle := rdr_take_le p.1 (k + 1)
      rw [htk, List.length_append, List.length_append] at hle
      have hsz : 2 * x.1 + x.2.length = (lineS x).length := by unfold lineS; rw [List.length_append, signs_len]
      obtain ⟨w1, hw1⟩ : ∃ w1, wr.alloc (Obj.cells #[.int .i64 (x.1 : Int), .string (str x.2)] 42) = w1 := ⟨_, rfl⟩
      have hb1 : Below wr.heap.size wr w1 := by rw [← hw1]; exact below_one wr _
      have hx1 : w1.heap[wr.heap.size]? = some (Obj.cells #[.int .i64 (x.1 : Int), .string (str x.2)] 42 (0, 0)) := by rw [← hw1]; exact heap_alloc_new wr _
      have b0 : w1.cell? ⟨wr.heap.size, 0, none⟩ = some (.int .i64 (x.1 : Int)) := (Lib.cell_of_heap hx1 0).trans rfl
      have b1 : w1.cell? ⟨wr.heap.size, 1, none⟩ = some (.string (str x.2)) := (Lib.cell_of_heap hx1 1).trans rfl
      have HB1 := hide (HB.out.kept hb1)
      have HLS := hide (lineStr_any x w1 (by have := HR.out; omega) (by have := HR.out; omega))
      unfold lnV at HLS
      obtain ⟨X, hX⟩ : ∃ X, X = str (lineS x) := ⟨_, rfl⟩
      have HX : Hid (X.data.toList = lineS x ∧ X.size = (lineS x).length) := hide (by rw [hX]; exact ⟨str_toList _, str_size _⟩)
      rw [← hX] at HLS
      have HTK := hide htk
      have HLE : Hid ((rdr (p.1.take k)).length + (lineS x).length + 1 ≤ 4000000000000) := hide (by have := HR.out; simp only [List.length_cons, List.length_nil] at hle; omega)
      clear hx hp1 hcap hmax hat htk hle hsz hb1 hx1 hX
      go_wp2_with fail
      refine HLS.out.mono ?_
      rintro e w2 ⟨rfl, hb2⟩
      have HB2 := hide (HB1.out.kept hb2)
      clear hb2
      go_wp2_with fail
      refine (writeString_any w.heap.size w.heap.size (rdr (p.1.take k)) X w w2 HB2.out (by rw [HX.out.2]; have := HLE.out; omega)).mono ?_
      rintro e w3 ⟨rfl, hb3⟩
      rw [HX.out.1] at hb3
      have HB3 := hide hb3
      clear hb3
      go_wp2_with fail
      refine (writeString_any w.heap.size w.heap.size (rdr (p.1.take k) ++ lineS x) ⟨#[10]⟩ w w3 HB3.out (by rw [List.length_append]; have := HLE.out; show _ + 1 ≤ _; omega)).mono ?_
      rintro e w4 ⟨rfl, hb4⟩
      rw [show (⟨#[10]⟩ : ByteArray).data.toList = [10] from rfl, ← HTK.out] at hb4
      have HB4 := hide hb4
      clear hb4
      go_wp2_with fail
      go_roundw
      case rel => exact ⟨k + 1, by omega, by go_num, HB4⟩
      case measure => have h1 := HNL.out; have h2 := HR.out; simp [intOf]; omega
    · obtain rfl : k = p.1.length := by omega
      have HB2 := HB.out
      rw [List.take_length] at HB2
      replace HB2 := hide HB2
      obtain ⟨y0, y1, -, -⟩ := hp1.cells
      have HWB := hide (writeBytes_any w.heap.size w.heap.size (rdr p.1) B (.slice Al p.2.length cl) p.2 w wr HB2.out hp1.bt (fun k e => (H.out.low.2 k e).2) (by have := HR.out; omega))
      rw [HE.out] at HWB
      clear hp1
      go_wp2_with fail
      refine HWB.out.mono ?_
      rintro e w3 ⟨rfl, hb3⟩
      have HB3 := hide hb3
      clear hb3
      go_wp2_with fail
      refine (HB3.out.string).mono ?_
      rintro e w4 ⟨rfl, hb4⟩
      have HB4 := hide hb4
      clear hb4
      go_wp2_with fail
      go_ret
      exact ⟨rfl, HB4.out⟩
/-- the writer as it begins: its block, its first page, its first place, in any order -/
theorem wr_start {B b g gb : Nat} {w : World} (hb : w.heap[b]? = some (.cells #[.slice (some ⟨g, 0, none⟩) 1 1, .slice (some ⟨gb, 0, none⟩) 1 1] 49 (0, 0))) (hg : w.heap[g]? = some (.cells #[.slice none 0 0, .slice none 0 0] 74 (0, 0))) (hgb : w.heap[gb]? = some (.cells #[.int .i64 0, .int .i64 0] 76 (0, 0))) (h1 : B ≤ b) (h2 : B ≤ g) (h3 : B ≤ gb) :
    WrInv B b ([([], [])], [(0, 0)], 0) w :=
  ⟨_, _, [⟨([], []), .slice none 0 0, .slice none 0 0⟩], ⟨hb, ⟨rfl, .inr ⟨g, 1, _, rfl, h2, hg, Nat.le_refl _, by decide, rfl, rfl⟩⟩, ⟨rfl, .inr ⟨gb, 1, _, rfl, h3, hgb, Nat.le_refl _, by decide, rfl, rfl⟩⟩, fun q hq => by
    obtain rfl := List.mem_singleton.1 hq
    exact ⟨World.ownsRow_nil _ _ _ 2, World.ownsRow_nil _ _ _ 1⟩, List.pairwise_singleton _ _, h1⟩, rfl, OKW.start⟩
theorem make_pages (W : World) : (Instr.makeSlice 46 (.int .i64 1) (.int .i64 1)).run Try.prog W = .ok (.slice (some ⟨W.heap.size, 0, none⟩) 1 1) (W.alloc (.cells #[.slice none 0 0, .slice none 0 0] 74)) := by
  obtain ⟨i0, hi, hz0, hz1, hz2⟩ := info_parts info_pg
  have h := run_makeSlice (P := Try.prog) W 46 74 i0 (.agg #[.slice none 0 0, .slice none 0 0]) Try.underlying46 hi hz0 .i64 .i64 1 1 (by decide) (by decide) (by rw [hz1]; decide) (by rw [hz2]; decide) (by decide)
  have e : madeCells (Value.agg #[.slice none 0 0, .slice none 0 0]).cells (Int.toNat 1 * 2) = #[.slice none 0 0, .slice none 0 0] := by kernel_rfl
  rw [h, hz1, e]; rfl
theorem make_places (W : World) : (Instr.makeSlice 47 (.int .i64 1) (.int .i64 1)).run Try.prog W = .ok (.slice (some ⟨W.heap.size, 0, none⟩) 1 1) (W.alloc (.cells #[.int .i64 0, .int .i64 0] 76)) := by
  obtain ⟨i0, hi, hz0, hz1, hz2⟩ := info_parts info_pl
  have h := run_makeSlice (P := Try.prog) W 47 76 i0 (.agg #[.int .i64 0, .int .i64 0]) Try.underlying47 hi hz0 .i64 .i64 1 1 (by decide) (by decide) (by rw [hz1]; decide) (by rw [hz2]; decide) (by decide)
  have e : madeCells (Value.agg #[.int .i64 0, .int .i64 0]).cells (Int.toNat 1 * 2) = #[.int .i64 0, .int .i64 0] := by kernel_rfl
  rw [h, hz1, e]; rfl
theorem three_below (w : World) (o1 o2 o3 : Obj) : Below w.heap.size w (((w.alloc o1).alloc o2).alloc o3).drew :=
  ((below_one w o1).trans (((below_one _ o2).trans ((below_one _ o3).mono (below_one _ o2).size)).mono (below_one w o1).size)).drew
theorem three1 (w : World) (o1 o2 o3 : Obj) : (((w.alloc o1).alloc o2).alloc o3).drew.heap[w.heap.size]? = some o1 :=
  (((below_one _ o3).block _ (by rw [World.size_alloc, World.size_alloc]; omega)).trans ((below_one _ o2).block _ (by rw [World.size_alloc]; omega))).trans (heap_alloc_new w o1)
theorem three2 (w : World) (o1 o2 o3 : Obj) : (((w.alloc o1).alloc o2).alloc o3).drew.heap[w.heap.size + 1]? = some o2 :=
  ((below_one _ o3).block _ (by rw [World.size_alloc, World.size_alloc]; omega)).trans (by have := heap_alloc_new (w.alloc o1) o2; rw [World.size_alloc] at this; exact this)
theorem three3 (w : World) (o1 o2 o3 : Obj) : (((w.alloc o1).alloc o2).alloc o3).drew.heap[w.heap.size + 1 + 1]? = some o3 := by
  have := heap_alloc_new ((w.alloc o1).alloc o2) o3
  rw [World.size_alloc, World.size_alloc] at this; exact this
def TxtSt (w : World) (s3 : Value) (wx : World) : Prop := ∃ b, s3 = .pointer (some ⟨b, 0, none⟩) ∧ WrInv w.heap.size b ([([], [])], [(0, 0)], 0) wx ∧ Below w.heap.size w wx
theorem txt_st0 (w : World) : TxtSt w (.pointer (some ⟨w.heap.size, 0, none⟩)) (((w.alloc (.cells #[.slice (some ⟨(w.heap.size + 1), 0, none⟩) 1 1, .slice (some ⟨(w.heap.size + 1 + 1), 0, none⟩) 1 1] 49)).alloc (.cells #[.slice none 0 0, .slice none 0 0] 74)).alloc (.cells #[.int .i64 0, .int .i64 0] 76)).drew :=
  ⟨_, rfl, wr_start (B := w.heap.size) (three1 w _ _ _) (three2 w _ _ _) (three3 w _ _ _) (Nat.le_refl _) (Nat.le_succ _) (Nat.le_add_right _ 2), three_below w _ _ _⟩
theorem txt_st1 (w : World) : TxtSt w (.pointer (some ⟨w.heap.size, 0, none⟩)) (((w.alloc (.cells #[.slice (some ⟨(w.heap.size + 1 + 1), 0, none⟩) 1 1, .slice (some ⟨(w.heap.size + 1), 0, none⟩) 1 1] 49)).alloc (.cells #[.int .i64 0, .int .i64 0] 76)).alloc (.cells #[.slice none 0 0, .slice none 0 0] 74)).drew :=
  ⟨_, rfl, wr_start (B := w.heap.size) (three1 w _ _ _) (three3 w _ _ _) (three2 w _ _ _) (Nat.le_refl _) (Nat.le_add_right _ 2) (Nat.le_succ _), three_below w _ _ _⟩
theorem txt_st2 (w : World) : TxtSt w (.pointer (some ⟨(w.heap.size + 1), 0, none⟩)) (((w.alloc (.cells #[.slice none 0 0, .slice none 0 0] 74)).alloc (.cells #[.slice (some ⟨w.heap.size, 0, none⟩) 1 1, .slice (some ⟨(w.heap.size + 1 + 1), 0, none⟩) 1 1] 49)).alloc (.cells #[.int .i64 0, .int .i64 0] 76)).drew :=
  ⟨_, rfl, wr_start (B := w.heap.size) (three2 w _ _ _) (three1 w _ _ _) (three3 w _ _ _) (Nat.le_succ _) (Nat.le_refl _) (Nat.le_add_right _ 2), three_below w _ _ _⟩
theorem txt_st3 (w : World) : TxtSt w (.pointer (some ⟨(w.heap.size + 1), 0, none⟩)) (((w.alloc (.cells #[.int .i64 0, .int .i64 0] 76)).alloc (.cells #[.slice (some ⟨(w.heap.size + 1 + 1), 0, none⟩) 1 1, .slice (some ⟨w.heap.size, 0, none⟩) 1 1] 49)).alloc (.cells #[.slice none 0 0, .slice none 0 0] 74)).drew :=
  ⟨_, rfl, wr_start (B := w.heap.size) (three2 w _ _ _) (three3 w _ _ _) (three1 w _ _ _) (Nat.le_succ _) (Nat.le_add_right _ 2) (Nat.le_refl _), three_below w _ _ _⟩
theorem txt_st4 (w : World) : TxtSt w (.pointer (some ⟨(w.heap.size + 1 + 1), 0, none⟩)) (((w.alloc (.cells #[.slice none 0 0, .slice none 0 0] 74)).alloc (.cells #[.int .i64 0, .int .i64 0] 76)).alloc (.cells #[.slice (some ⟨w.heap.size, 0, none⟩) 1 1, .slice (some ⟨(w.heap.size + 1), 0, none⟩) 1 1] 49)).drew :=
  ⟨_, rfl, wr_start (B := w.heap.size) (three3 w _ _ _) (three1 w _ _ _) (three2 w _ _ _) (Nat.le_add_right _ 2) (Nat.le_refl _) (Nat.le_succ _), three_below w _ _ _⟩
theorem txt_st5 (w : World) : TxtSt w (.pointer (some ⟨(w.heap.size + 1 + 1), 0, none⟩)) (((w.alloc (.cells #[.int .i64 0, .int .i64 0] 76)).alloc (.cells #[.slice none 0 0, .slice none 0 0] 74)).alloc (.cells #[.slice (some ⟨(w.heap.size + 1), 0, none⟩) 1 1, .slice (some ⟨w.heap.size, 0, none⟩) 1 1] 49)).drew :=
  ⟨_, rfl, wr_start (B := w.heap.size) (three3 w _ _ _) (three2 w _ _ _) (three1 w _ _ _) (Nat.le_add_right _ 2) (Nat.le_succ _) (Nat.le_refl _), three_below w _ _ _⟩
set_option maxHeartbeats 4000000 in
theorem plainText_any (v : Value) (T : Tr) (w : World) (hT : NodesIn w v T) (hc : T.count ≤ 1000000) (hcost : costT T ≤ 1000000) :
    Calls Try.prog 16 #[v] w fun e w' => e = .returned (.string (str (plainT T))) ∧ Below w.heap.size w w' := by
  obtain ⟨pe, ge, hv, hge, hre⟩ := vis_plain T
  have HT := hide hT
  have HV := hide (And.intro hv (And.intro hge hre))
  have HCC := hide (And.intro hc hcost)
  clear hT hv hge hre hc hcost
  have hm1 := make_pages
  have hm2 := make_places
  have hmf : ∀ fn first cap w, (Instr.makeFunc fn first cap).run Try.prog w = .ok (.func fn first cap) w := fun _ _ _ _ => rfl
  go_enter Try.func16, Try.ntmps16
  go_upto_region 1 with (fail)
  go_cut [3, 4, 5, 6] (fun s3 _ _ _ wx => TxtSt w s3 wx)
  case first =>
    go_region
    all_goals
      go_wp2_with fail
      go_meet
      first | exact txt_st0 w | exact txt_st1 w | exact txt_st2 w | exact txt_st3 w | exact txt_st4 w | exact txt_st5 w
  obtain ⟨b, rfl, hinv, hb0⟩ := hcut
  have hKb : ∀ args w, (callFunc 27 args).run Try.prog w = .ok (.enter 27 args) w := enters_of Try.func27 (by kernel_rfl) rfl
  have hKe : ∀ args w, (callFunc 28 args).run Try.prog w = .ok (.enter 28 args) w := enters_of Try.func28 (by kernel_rfl) rfl
  have HW := hide (walk_gen w.heap.size 27 28 (.pointer (some ⟨b, 0, none⟩)) (.pointer (some ⟨b, 0, none⟩)) hKb hKe (WrInv w.heap.size b) bgW enW dvW (fun s => s.2.2) 1000000 (fun _ _ => True) bgW_le enW_le (wr_inv _ _) (beg_any _ _) (end_any _ _) v T ([([], [])], [(0, 0)], 0) _
    (HT.out.mono (fun k hk => hb0.block k hk) (fun _ h => h)) (Tr.ev_true T) HCC.out.1 (by show (vis bgW enW dvW T ([([], [])], [(0, 0)], 0)).2.2 ≤ _; rw [HV.out.1]; exact Nat.le_trans HV.out.2.1 HCC.out.2) hinv hb0.size)
  have HB0 := hide hb0
  clear hinv hb0 hKb hKe
  go_wp2_with fail
  refine HW.out.mono ?_
  rintro e w2 ⟨rfl, hi2, hb2⟩
  rw [HV.out.1] at hi2
  obtain ⟨pv, bv, qs, hw2, hm, hok⟩ := hi2
  obtain ⟨q, rfl, hqp⟩ : ∃ q, qs = [q] ∧ q.p = pe := by
    match qs, hm with
    | [q], hm => exact ⟨q, rfl, by simpa using hm⟩
  obtain ⟨g, c, rfl, -, -, hp⟩ := hw2.page
  have HB2 := hide (HB0.out.trans hb2)
  have hbyt : (render q.p).length ≤ 4000000000000 := by
    have h1 := hok.byt
    have h2 : (render pe).length ≤ ge * 2000010 := by simpa [bytW] using h1
    have h3 := Nat.le_trans HV.out.2.1 HCC.out.2
    rw [hqp]; omega
  have HI := hide (innerB_any hw2 (by decide) (Below.refl w2.heap.size w2))
  have HP := hide hp
  have HBY := hide hbyt
  have HQ : Hid (render q.p = plainT T) := hide (by rw [hqp]; exact HV.out.2.2)
  clear hw2 hm hok hqp hp hb2 hbyt
  go_wp2_with fail
  refine HI.out.mono ?_
  rintro e w3 ⟨rfl, hb3⟩
  have HS := hide (pageStr_any w.heap.size g _ q.p q.ev q.lv w3 (HP.out.kept hb3) HBY.out)
  rw [HQ.out] at HS
  have HB3 := hide (bl_two HB2.out hb3)
  clear hb3
  go_wp2_with fail
  refine HS.out.mono ?_
  rintro e w4 ⟨rfl, hb4⟩
  have HB4 := hide (bl_two HB3.out hb4)
  clear hb4
  go_wp2_with fail
  go_ret
  exact ⟨rfl, HB4.out⟩
end Go.Proofs.Ytdeaofnhdbhknaa
