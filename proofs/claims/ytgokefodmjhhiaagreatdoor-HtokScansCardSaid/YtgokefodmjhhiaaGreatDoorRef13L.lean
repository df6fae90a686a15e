/- WALK of the laws' live (layer 13). No statement is proved here. Own work of the verifier. -/
import Derived.Test.YtgokefodmjhhiaaGreatDoorBaseP
import Derived.Test.YtgokefodmjhhiaaGreatDoorHtokY
import Derived.Test.YtgokefodmjhhiaaGreatDoorRef13S
import Derived.Test.YtgokefodmjhhiaaGreatDoorBaseO
namespace Go.Proofs.YtgokefodmjhhiaaGreatDoor
open Go.RowKit
set_option linter.unusedVariables false
set_option linter.unusedSimpArgs false
set_option maxRecDepth 100000
def liveS : List UInt8 := [60, 65, 32, 72, 82, 69, 70, 61, 120, 32, 98, 61, 39, 38, 108, 116, 59, 39, 47, 99, 62, 121, 38, 97, 109, 112, 59, 60, 33, 45, 45, 122, 45, 45, 62, 60, 47, 97, 62, 60, 115, 116, 121, 108, 101, 62, 60, 98, 62, 60, 47, 83, 116, 121, 108, 101, 32, 62, 60]
def liveT : List TokG := [(2, ⟨2, [97], [([104, 114, 101, 102], [120]), ([98], [60]), ([99], [])], []⟩), (1, ⟨1, [], [], [121, 38]⟩), (4, ⟨4, [], [], [122]⟩), (3, ⟨3, [97], [], []⟩), (2, ⟨2, [115, 116, 121, 108, 101], [], []⟩), (1, ⟨1, [], [], [60, 98, 62]⟩), (3, ⟨3, [115, 116, 121, 108, 101], [], []⟩), (1, ⟨1, [], [], [60]⟩)]
theorem live13a : ((scanL decE [] [] liveS).map gOf).map tokKey = liveT.map tokKey := by decide +kernel
def liveU : List TokG := [(2, ⟨2, [98], [([99], [34])], []⟩), (1, ⟨1, [], [], [60]⟩), (3, ⟨3, [98], [], []⟩)]
theorem live13b : writeG liveU = [60, 98, 32, 99, 61, 34, 38, 113, 117, 111, 116, 59, 34, 62, 38, 108, 116, 59, 60, 47, 98, 62] := by decide +kernel
def liveC (g : Nat) : Array Value := #[.int .i64 2, .string ⟨#[97]⟩, .slice (some ⟨g, 0, none⟩) 3 3, .string ⟨#[]⟩, .int .i64 1, .string ⟨#[]⟩, .slice none 0 0, .string ⟨#[121, 38]⟩, .int .i64 4, .string ⟨#[]⟩, .slice none 0 0, .string ⟨#[122]⟩, .int .i64 3, .string ⟨#[97]⟩, .slice none 0 0, .string ⟨#[]⟩, .int .i64 2, .string ⟨#[115, 116, 121, 108, 101]⟩, .slice none 0 0, .string ⟨#[]⟩, .int .i64 1, .string ⟨#[]⟩, .slice none 0 0, .string ⟨#[60, 98, 62]⟩, .int .i64 3, .string ⟨#[115, 116, 121, 108, 101]⟩, .slice none 0 0, .string ⟨#[]⟩, .int .i64 1, .string ⟨#[]⟩, .slice none 0 0, .string ⟨#[60]⟩]
def liveA : Array Value := #[.string ⟨#[104, 114, 101, 102]⟩, .string ⟨#[120]⟩, .string ⟨#[98]⟩, .string ⟨#[60]⟩, .string ⟨#[99]⟩, .string ⟨#[]⟩]
theorem live13_lit (w : World) : ToksIn ((w.alloc (.cells liveA 32)).alloc (.cells (liveC w.heap.size) 29)) (.slice (some ⟨w.heap.size + 1, 0, none⟩) 8 8) liveT := by
  have h0 : ((w.alloc (.cells liveA 32)).alloc (.cells (liveC w.heap.size) 29)).heap[w.heap.size]? = some (.cells (atVals [([104, 114, 101, 102], [120]), ([98], [60]), ([99], [])]).toArray 32 (0, 0)) := by
    rw [(below_one' _ _).block _ (by rw [World.size_alloc]; exact Nat.lt_succ_self _)]
    exact alloc_new_block w _
  have h1 : ((w.alloc (.cells liveA 32)).alloc (.cells (liveC w.heap.size) 29)).heap[w.heap.size + 1]? = some (.cells (liveC w.heap.size) 29 (0, 0)) := by
    have := alloc_new_block (w.alloc (.cells liveA 32)) (.cells (liveC w.heap.size) 29)
    rw [World.size_alloc] at this
    exact this
  refine toks_lit liveT h1 (by decide) fun j f hj => ?_
  match j, hj with
  | 0, hj => simp [liveT] at hj; subst hj; exact ⟨rfl, rfl, rfl, _, rfl, attrs_lit [([104, 114, 101, 102], [120]), ([98], [60]), ([99], [])] h0 (by decide)⟩
  | 1, hj => simp [liveT] at hj; subst hj; exact ⟨rfl, rfl, rfl, _, rfl, attrs_none _⟩
  | 2, hj => simp [liveT] at hj; subst hj; exact ⟨rfl, rfl, rfl, _, rfl, attrs_none _⟩
  | 3, hj => simp [liveT] at hj; subst hj; exact ⟨rfl, rfl, rfl, _, rfl, attrs_none _⟩
  | 4, hj => simp [liveT] at hj; subst hj; exact ⟨rfl, rfl, rfl, _, rfl, attrs_none _⟩
  | 5, hj => simp [liveT] at hj; subst hj; exact ⟨rfl, rfl, rfl, _, rfl, attrs_none _⟩
  | 6, hj => simp [liveT] at hj; subst hj; exact ⟨rfl, rfl, rfl, _, rfl, attrs_none _⟩
  | 7, hj => simp [liveT] at hj; subst hj; exact ⟨rfl, rfl, rfl, _, rfl, attrs_none _⟩
  | j + 8, hj => simp [liveT] at hj
def liveD (g : Nat) : Array Value := #[.int .i64 2, .string ⟨#[98]⟩, .slice (some ⟨g, 0, none⟩) 1 1, .string ⟨#[]⟩, .int .i64 1, .string ⟨#[]⟩, .slice none 0 0, .string ⟨#[60]⟩, .int .i64 3, .string ⟨#[98]⟩, .slice none 0 0, .string ⟨#[]⟩]
theorem live13_lit2 (w : World) : ToksIn ((w.alloc (.cells #[.string ⟨#[99]⟩, .string ⟨#[34]⟩] 32)).alloc (.cells (liveD w.heap.size) 29)) (.slice (some ⟨w.heap.size + 1, 0, none⟩) 3 3) liveU := by
  have h0 : ((w.alloc (.cells #[.string ⟨#[99]⟩, .string ⟨#[34]⟩] 32)).alloc (.cells (liveD w.heap.size) 29)).heap[w.heap.size]? = some (.cells (atVals [([99], [34])]).toArray 32 (0, 0)) := by
    rw [(below_one' _ _).block _ (by rw [World.size_alloc]; exact Nat.lt_succ_self _)]
    exact alloc_new_block w _
  have h1 : ((w.alloc (.cells #[.string ⟨#[99]⟩, .string ⟨#[34]⟩] 32)).alloc (.cells (liveD w.heap.size) 29)).heap[w.heap.size + 1]? = some (.cells (liveD w.heap.size) 29 (0, 0)) := by
    have := alloc_new_block (w.alloc (.cells #[.string ⟨#[99]⟩, .string ⟨#[34]⟩] 32)) (.cells (liveD w.heap.size) 29)
    rw [World.size_alloc] at this
    exact this
  refine toks_lit liveU h1 (by decide) fun j f hj => ?_
  match j, hj with
  | 0, hj => simp [liveU] at hj; subst hj; exact ⟨rfl, rfl, rfl, _, rfl, attrs_lit [([99], [34])] h0 (by decide)⟩
  | 1, hj => simp [liveU] at hj; subst hj; exact ⟨rfl, rfl, rfl, _, rfl, attrs_none _⟩
  | 2, hj => simp [liveU] at hj; subst hj; exact ⟨rfl, rfl, rfl, _, rfl, attrs_none _⟩
  | j + 3, hj => simp [liveU] at hj
set_option maxHeartbeats 4000000 in
theorem live13_any (w : World) (hE : EnvX w) : Calls Tryz.prog 15 #[] w fun e w' => e = .returned (.bool true) ∧ Below w.heap.size w w' := by
  obtain ⟨hE1, m, hm⟩ := hE
  have HS := hide (scan_any ⟨#[60, 65, 32, 72, 82, 69, 70, 61, 120, 32, 98, 61, 39, 38, 108, 116, 59, 39, 47, 99, 62, 121, 38, 97, 109, 112, 59, 60, 33, 45, 45, 122, 45, 45, 62, 60, 47, 97, 62, 60, 115, 116, 121, 108, 101, 62, 60, 98, 62, 60, 47, 83, 116, 121, 108, 101, 32, 62, 60]⟩ m w (by decide) hE1 hm)
  have HE : Hid (EnvX w) := hide ⟨hE1, m, hm⟩
  have HST : Hid (str (writeG liveU) = ⟨#[60, 98, 32, 99, 61, 34, 38, 113, 117, 111, 116, 59, 34, 62, 38, 108, 116, 59, 60, 47, 98, 62]⟩) := hide (congrArg str live13b)
  clear hE1 hm
  go_enter Tryz.func15, Tryz.ntmps15
  go_wp2_with fail
  refine HS.out.mono ?_
  rintro e w1 ⟨v, vs, rfl, ht, hm, hb⟩
  obtain ⟨A, c, rfl⟩ := ht.slice_len
  have HT := hide ht.in
  have HM := hide hm
  have HB := hide hb
  clear ht hm hb
  go_wp2_with fail
  have HB1 := hide ((HB.out.alloc HB.out.size (.cells liveA 32)).alloc (by rw [World.size_alloc]; exact Nat.le_succ_of_le HB.out.size) (.cells (liveC w1.heap.size) 29))
  have HM2 : Hid (decide ((((vs.map Prod.fst).map gOf).map tokKey) = liveT.map tokKey) = true) := hide (decide_eq_true (by rw [HM.out]; exact live13a))
  have HAL : Hid (vs.length ≤ 1048576 ∧ ∀ p ∈ (vs.map Prod.fst).map gOf, p.2.attrs.length ≤ 1048576) := hide (by
    have h1 := congrArg List.length (of_decide_eq_true HM2.out)
    rw [List.length_map, List.length_map, List.length_map] at h1
    refine ⟨by rw [h1]; decide, fun p hp => ?_⟩
    have h2 : tokKey p ∈ liveT.map tokKey := by rw [← of_decide_eq_true HM2.out]; exact List.mem_map_of_mem hp
    obtain ⟨q, hq, he⟩ := List.mem_map.1 h2
    have h3 : p.2.attrs = q.2.attrs := (congrArg (fun z => z.2.2.2) he).symm
    rw [h3]
    simp only [liveT, List.mem_cons, List.not_mem_nil, or_false] at hq
    rcases hq with rfl | rfl | rfl | rfl | rfl | rfl | rfl | rfl <;> decide)
  have HS1 := hide (same13_any _ _ _ _ _ (HT.out.kept ((below_one' w1 _).trans ((below_one' _ _).mono (by rw [World.size_alloc]; exact Nat.le_succ _)))) (live13_lit w1) (by simpa using HAL.out.1) HAL.out.2)
  rw [HM2.out] at HS1
  refine HS1.out.mono ?_
  rintro e w3 ⟨rfl, mm, hw3⟩
  have HB3 : Hid (Below w.heap.size w w3) := hide (by rw [hw3]; exact HB1.out.trans ⟨rfl, rfl, rfl, Nat.le_refl _, fun _ _ => rfl⟩)
  clear hw3 HT HM HM2 HAL HB1 HB HS HS1
  go_wp2_with fail
  refine (rawW_any _ _).mono ?_
  rintro e w4 ⟨rfl, rfl⟩
  rw [show rawL.contains (⟨#[116, 105, 116, 108, 101]⟩ : ByteArray).data.toList = true by decide +kernel]
  go_wp2_with fail
  refine (rawW_any _ _).mono ?_
  rintro e w4 ⟨rfl, rfl⟩
  rw [show rawL.contains (⟨#[98]⟩ : ByteArray).data.toList = false by decide +kernel]
  go_wp2_with fail
  have HBB : Hid (Below w.heap.size w ((w3.alloc (.cells #[.string ⟨#[99]⟩, .string ⟨#[34]⟩] 32)).alloc (.cells (liveD w3.heap.size) 29))) :=
    hide ((HB3.out.alloc HB3.out.size _).alloc (by rw [World.size_alloc]; exact Nat.le_succ_of_le HB3.out.size) _)
  refine (write_any13 _ liveU _ (live13_lit2 w3) (by decide) (by decide +kernel) (HE.out.kept HBB.out)).mono ?_
  rintro e w4 ⟨rfl, hb4⟩
  have HB4 := hide (HBB.out.trans (hb4.mono HBB.out.size))
  clear hb4
  rw [HST.out]
  go_wp2_with fail
  go_ret
  exact ⟨rfl, HB4.out⟩
end Go.Proofs.YtgokefodmjhhiaaGreatDoor
