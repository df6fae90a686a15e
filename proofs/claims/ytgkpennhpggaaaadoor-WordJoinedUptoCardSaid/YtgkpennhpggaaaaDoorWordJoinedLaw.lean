/- WALK of the law WordJoined. No statement is proved here. -/
import Derived.Test.YtgkpennhpggaaaaDoorWordLaw0
import Derived.Test.YtgkpennhpggaaaaDoorStrsIn
namespace Go.Proofs.YtgkpennhpggaaaaDoor
open Go.RowKit
set_option linter.unusedVariables false
set_option linter.unusedSimpArgs false
set_option maxRecDepth 100000

def isWordL (l : List UInt8) : Prop := oneN l ≠ 0 ∧ oneN l = l.length
/-- words, one behind the other, with a text between each two -/
def joinS (sep : List UInt8) : List (List UInt8) → List UInt8
  | [] => []
  | [x] => x
  | x :: y :: r => x ++ (sep ++ joinS sep (y :: r))
theorem joinS_snoc (sep : List UInt8) (x : List UInt8) : ∀ ws : List (List UInt8), ws ≠ [] → joinS sep (ws ++ [x]) = joinS sep ws ++ sep ++ x
  | [], h => absurd rfl h
  | [y], _ => by simp [joinS]
  | y :: z :: r, _ => by
    have := joinS_snoc sep x (z :: r) (by simp)
    show y ++ (sep ++ joinS sep (z :: (r ++ [x]))) = _
    rw [show z :: (r ++ [x]) = (z :: r) ++ [x] from rfl, this]
    simp [joinS]
theorem dec_white (b : Bool) (p sep l : List UInt8) (h : ∀ c ∈ sep, c ≠ 61) : decW b p (sep ++ l) = decW b (p ++ sep) l := by
  induction sep generalizing p with
  | nil => simp
  | cons c r ih =>
    rw [List.cons_append, dec_ws _ _ _ _ (h c (List.mem_cons_self ..)), ih _ (fun x hx => h x (List.mem_cons_of_mem _ hx)), List.append_assoc]; rfl
theorem dec_words (sep : List UInt8) (hs : ∀ c ∈ sep, c ≠ 61) (hw : allWs sep = true) : ∀ (ws : List (List UInt8)) (x : List UInt8), (∀ y ∈ x :: ws, isWordL y) →
    decW false [] (joinS sep (x :: ws)) = (x :: ws).flatMap oneT ∧ decW true sep (joinS sep (x :: ws)) = (x :: ws).flatMap oneT := by
  intro ws
  induction ws with
  | nil =>
    intro x h
    obtain ⟨h1, h2⟩ := h x (List.mem_cons_self ..)
    have hd : x.drop (oneN x) = [] := by rw [h2]; exact List.drop_length
    show decW false [] x = _ ∧ decW true sep x = _
    rw [decW_word h1, decW_word h1, hd, decW_nil, validL_nil, hw]
    constructor <;> simp [validL_nil]
  | cons y r ih =>
    intro x h
    obtain ⟨h1, h2⟩ := h x (List.mem_cons_self ..)
    obtain ⟨_, i2⟩ := ih y (fun z hz => h z (List.mem_cons_of_mem _ hz))
    obtain ⟨l1, l2⟩ := one_local (t := sep ++ joinS sep (y :: r)) h1 h2
    have h0 : oneN (x ++ (sep ++ joinS sep (y :: r))) ≠ 0 := by rw [l1]; exact h1
    have hd : (x ++ (sep ++ joinS sep (y :: r))).drop (oneN (x ++ (sep ++ joinS sep (y :: r)))) = sep ++ joinS sep (y :: r) := by rw [l1, h2, List.drop_left]
    show decW false [] (x ++ (sep ++ joinS sep (y :: r))) = _ ∧ decW true sep (x ++ (sep ++ joinS sep (y :: r))) = _
    rw [decW_word h0, decW_word h0, hd, l2, dec_white _ _ _ _ hs, List.nil_append, i2, hw]
    constructor <;> simp [validL_nil]
theorem dec_all (sep : List UInt8) (hs : ∀ c ∈ sep, c ≠ 61) (hw : allWs sep = true) (ws : List (List UInt8)) (h : ∀ y ∈ ws, isWordL y) : decW false [] (joinS sep ws) = ws.flatMap oneT := by
  match ws, h with
  | [], _ => show decW false [] [] = []; rw [decW_nil, validL_nil]
  | x :: r, h => exact (dec_words sep hs hw r x h).1
/-- what holds behind k words -/
structure JoinSt (sep : List UInt8) (l : List ByteArray) (k : Nat) (S T : ByteArray) : Prop where
  text : S.data.toList = joinS sep ((l.take k).map (·.data.toList))
  want : T.data.toList = ((l.take k).map (·.data.toList)).flatMap oneT
  word : ∀ y ∈ (l.take k).map (·.data.toList), isWordL y
  zS : S.size ≤ 210 * k
  zT : T.size ≤ 600 * k
theorem join_start (sep : List UInt8) (l : List ByteArray) : JoinSt sep l 0 ⟨#[]⟩ ⟨#[]⟩ := ⟨rfl, rfl, (by simp), Nat.zero_le _, Nat.zero_le _⟩
theorem join_next {sep : List UInt8} {l : List ByteArray} {k n : Nat} {S T B x u : ByteArray} (h : JoinSt sep l k S T) (hk : l[k]? = some x) (hx : oneN x.data.toList = n) (h0 : n ≠ 0) (hn : n = x.size) (h2 : n ≤ 200) (hu : u = str (oneT x.data.toList)) (hB : B.data.toList = sep) (hBz : B.size ≤ 2) :
    (k = 0 → JoinSt sep l (k + 1) (S ++ x) (T ++ u)) ∧ (k ≠ 0 → JoinSt sep l (k + 1) (S ++ B ++ x) (T ++ u)) := by
  have ht : (l.take (k + 1)).map (·.data.toList) = (l.take k).map (·.data.toList) ++ [x.data.toList] := by
    rw [List.take_add_one, hk]; simp
  have htl := oneT_length x.data.toList
  have hus : u.size ≤ 600 := by rw [hu, str_size]; omega
  have hul : u.data.toList = oneT x.data.toList := by rw [hu, str_toList]
  have hwd : ∀ y ∈ (l.take (k + 1)).map (·.data.toList), isWordL y := by
    intro y hy
    rw [ht] at hy
    rcases List.mem_append.1 hy with hy | hy
    · exact h.word y hy
    · rw [List.mem_singleton.1 hy]; exact ⟨by rw [hx]; exact h0, by rw [hx, hn, toList_length]⟩
  have hwt : (T ++ u).data.toList = ((l.take (k + 1)).map (·.data.toList)).flatMap oneT := by
    rw [ht, List.flatMap_append]
    simp [h.want, hul]
  have hz := h.zS
  have hz2 := h.zT
  refine ⟨fun h00 => ⟨?_, hwt, hwd, by rw [ByteArray.size_append]; omega, by rw [ByteArray.size_append]; omega⟩, fun h00 => ⟨?_, hwt, hwd, by rw [ByteArray.size_append, ByteArray.size_append]; omega, by rw [ByteArray.size_append]; omega⟩⟩
  · subst h00
    have hS : S.data.toList = [] := h.text
    rw [ht]
    simp [hS, joinS]
  · have hne : (l.take k).map (·.data.toList) ≠ [] := by
      intro e
      have := congrArg List.length e
      have hkl := (List.getElem?_eq_some_iff.1 hk).1
      rw [List.length_map, List.length_take, List.length_nil] at this
      omega
    rw [ht, joinS_snoc _ _ _ hne, ← h.text, ← hB]; simp
theorem join_end {sep : List UInt8} (hs : ∀ c ∈ sep, c ≠ 61) (hw : allWs sep = true) {l : List ByteArray} {k : Nat} {S T : ByteArray} (h : JoinSt sep l k S T) (hk : l.length ≤ k) : str (decW false [] S.data.toList) = T := by
  apply ext_list
  rw [str_toList, h.text, dec_all sep hs hw _ h.word, h.want]

set_option maxHeartbeats 4000000 in
theorem law_WordJoined (v : Value) (l : List ByteArray) {w : World} (hl : StrsIn w v l) (hz : ∀ x ∈ l, x.size ≤ 1048576) (tab : Bool) (hE : Env w) :
    Calls Tryd.prog 7 #[v, .bool tab] w fun e w' => e = .returned (.bool true) ∧ Below w.heap.size w w' := by
  have HE := hide hE
  have HL := hide hl
  have HZ := hide hz
  obtain ⟨A, cap, rfl⟩ := hl.form
  clear hE hl hz
  by_cases h40 : 40 < l.length
  · have t0 : decide (40 < l.length) = true := decide_eq_true h40
    have t1 : decide ((40 : Int) < (l.length : Int)) = true := decide_eq_true (by omega)
    go_enter Tryd.func7, Tryd.ntmps7
    go_wp2_with fail
    refine (live5_any _ HE.out).mono ?_
    rintro e wl ⟨rfl, hbl⟩
    go_wp2_with fail
    go_ret
    exact ⟨rfl, hbl⟩
  have t1 : decide ((40 : Int) < (l.length : Int)) = false := decide_eq_false (by omega)
  have hl40 : l.length ≤ 40 := by omega
  clear h40
  have HCELL : Hid (∀ (w' : World) (k : Nat) (x : ByteArray), Below w.heap.size w w' → l[k]? = some x → ∃ a, A = some a ∧ w'.cell? (a.add k) = some (.string x) ∧ x.size ≤ 1048576) := hide (fun w' k x hb hx => by
    have hk := (List.getElem?_eq_some_iff.1 hx).1
    have he := (List.getElem?_eq_some_iff.1 hx).2
    rcases HL.out with ⟨_, rfl⟩ | ⟨a, cap', h1, _, _, h4, _⟩
    · cases hx
    · injection h1 with h1 _ _
      refine ⟨a, h1, ?_, HZ.out x (he ▸ List.getElem_mem hk)⟩
      have hc := h4 k hk
      rw [he] at hc
      exact (hb.cell (World.block_lt_of_cell? _ _ hc)).trans hc)
  clear HL HZ
  cases tab
  all_goals
    go_enter Tryd.func7, Tryd.ntmps7
    go_wp2_with fail
  · go_loopw [6, 7, 8] (fun o wt i wr => ∃ (S T : ByteArray) (k : Nat), o = .string S ∧ wt = .string T ∧ i = .int .i64 k ∧ k ≤ l.length ∧ Hid (Below w.heap.size w wr) ∧ Hid (JoinSt [32, 10] l k S T)) (fun _ _ i _ => l.length - (intOf i).toNat)
    case atStart => exact ⟨⟨#[]⟩, ⟨#[]⟩, 0, rfl, rfl, rfl, Nat.zero_le _, hide (Below.refl _ _), hide (join_start _ _)⟩
    case round =>
      obtain ⟨S, T, k, rfl, rfl, rfl, hk, HB, HJ⟩ := hrel
      have hSz : S.size ≤ 9000 := by have := HJ.out.zS; omega
      have hTz : T.size ≤ 25000 := by have := HJ.out.zT; omega
      by_cases hlt : k < l.length
      · obtain ⟨x, hx⟩ : ∃ x, l[k]? = some x := ⟨_, List.getElem?_eq_getElem hlt⟩
        obtain ⟨a, ha, hc, hxz⟩ := HCELL.out wr k x HB.out hx
        obtain ⟨n, hn⟩ : ∃ n, oneN x.data.toList = n := ⟨_, rfl⟩
        obtain ⟨u, hu⟩ : ∃ u, u = str (oneT x.data.toList) := ⟨_, rfl⟩
        have HV : Hid (oneV x.data.toList = .tuple #[.string u, .int .i64 n]) := hide (by rw [hu, ← hn]; rfl)
        have htl := oneT_length x.data.toList
        have hus : u.size ≤ 3 * n := by rw [hu, str_size, ← hn]; exact htl
        have HX := hide hx
        have HN := hide hn
        have HU := hide hu
        have F2 := hide (show l.length - (k + 1) < l.length - k by omega)
        have hk0 : (0 : Int) ≤ k := by omega
        clear htl hx hn hu
        subst ha
        go_wp2_with fail
        refine (one_any x _ hxz (HE.out.kept HB.out).1).mono ?_
        rintro e w1 ⟨rfl, hb1⟩
        rw [HV.out]
        have HB1 := hide (HB.out.trans (hb1.mono HB.out.size))
        have hc1 : w1.cell? (a.add k) = some (.string x) := (hb1.cell (World.block_lt_of_cell? _ _ hc)).trans hc
        clear hb1
        by_cases h0 : n = 0
        · have t2 : ((n : Int) == 0) = true := by rw [h0]; rfl
          clear h0
          go_wp2_with fail
          refine (live5_any _ (HE.out.kept HB1.out)).mono ?_
          rintro e wl ⟨rfl, hbl⟩
          go_wp2_with fail
          go_ret
          exact ⟨rfl, HB1.out.trans (hbl.mono HB1.out.size)⟩
        have t2 : ((n : Int) == 0) = false := by rw [beq_eq_false_iff_ne]; omega
        by_cases hnx : n ≠ x.size
        · have t3 : ((n : Int) == x.size) = false := by rw [beq_eq_false_iff_ne]; omega
          have t4 : ((n : Int) != x.size) = true := by simp [bne, t3]
          clear h0 hnx
          go_wp2_with fail
          refine (live5_any _ (HE.out.kept HB1.out)).mono ?_
          rintro e wl ⟨rfl, hbl⟩
          go_wp2_with fail
          go_ret
          exact ⟨rfl, HB1.out.trans (hbl.mono HB1.out.size)⟩
        replace hnx : n = x.size := Decidable.not_not.1 hnx
        have t3 : ((n : Int) == x.size) = true := by rw [beq_iff_eq]; omega
        have t4 : ((n : Int) != x.size) = false := by simp [bne, t3]
        by_cases h200 : 200 < n
        · have t5 : decide ((200 : Int) < n) = true := decide_eq_true (by omega)
          clear h0 hnx h200
          go_wp2_with fail
          refine (live5_any _ (HE.out.kept HB1.out)).mono ?_
          rintro e wl ⟨rfl, hbl⟩
          go_wp2_with fail
          go_ret
          exact ⟨rfl, HB1.out.trans (hbl.mono HB1.out.size)⟩
        have t5 : decide ((200 : Int) < n) = false := decide_eq_false (by omega)
        obtain ⟨j1, j2⟩ := join_next (B := ⟨#[32, 10]⟩) HJ.out HX.out HN.out h0 hnx (by omega) HU.out rfl (by decide)
        have J1 := hide j1
        have J2 := hide j2
        have hxs : x.size ≤ 200 := by omega
        have hus2 : u.size ≤ 600 := by omega
        have F1 := hide (show k + 1 ≤ l.length by omega)
        clear j1 j2 h0 hnx h200 hus hxz
        by_cases hk00 : k = 0
        · have G := hide (J1.out hk00)
          have t6 : decide ((0 : Int) < (k : Int)) = false := decide_eq_false (by omega)
          have t7 : ¬ 0 < k := by omega
          clear hk00
          go_wp2_with fail
          go_roundw
          case rel => exact ⟨S ++ x, T ++ u, k + 1, rfl, rfl, by go_num, F1.out, HB1, G⟩
          case measure => exact F2.out
        · have G := hide (J2.out hk00)
          have t6 : decide ((0 : Int) < (k : Int)) = true := decide_eq_true (by omega)
          have t7 : 0 < k := by omega
          clear hk00
          go_wp2_with fail
          go_roundw
          case rel => exact ⟨S ++ ⟨#[32, 10]⟩ ++ x, T ++ u, k + 1, rfl, rfl, by go_num, F1.out, HB1, G⟩
          case measure => exact F2.out
      · have HR := hide (join_end (by decide) (by decide) HJ.out (Nat.not_lt.1 hlt))
        have hSz2 : S.size ≤ 1048576 := by omega
        go_wp2_with fail
        refine (wordDecode_any S _ hSz2 (HE.out.kept HB.out).1).mono ?_
        rintro e w2 ⟨rfl, hb2⟩
        rw [HR.out]
        have HB2 := hide (HB.out.trans (hb2.mono HB.out.size))
        clear hb2
        go_wp2_with fail
        refine (live5_any _ (HE.out.kept HB2.out)).mono ?_
        rintro e wl ⟨rfl, hbl⟩
        go_wp2_with fail
        go_ret
        exact ⟨rfl, HB2.out.trans (hbl.mono HB2.out.size)⟩
  · go_loopw [6, 7, 8] (fun o wt i wr => ∃ (S T : ByteArray) (k : Nat), o = .string S ∧ wt = .string T ∧ i = .int .i64 k ∧ k ≤ l.length ∧ Hid (Below w.heap.size w wr) ∧ Hid (JoinSt [9] l k S T)) (fun _ _ i _ => l.length - (intOf i).toNat)
    case atStart => exact ⟨⟨#[]⟩, ⟨#[]⟩, 0, rfl, rfl, rfl, Nat.zero_le _, hide (Below.refl _ _), hide (join_start _ _)⟩
    case round =>
      obtain ⟨S, T, k, rfl, rfl, rfl, hk, HB, HJ⟩ := hrel
      have hSz : S.size ≤ 9000 := by have := HJ.out.zS; omega
      have hTz : T.size ≤ 25000 := by have := HJ.out.zT; omega
      by_cases hlt : k < l.length
      · obtain ⟨x, hx⟩ : ∃ x, l[k]? = some x := ⟨_, List.getElem?_eq_getElem hlt⟩
        obtain ⟨a, ha, hc, hxz⟩ := HCELL.out wr k x HB.out hx
        obtain ⟨n, hn⟩ : ∃ n, oneN x.data.toList = n := ⟨_, rfl⟩
        obtain ⟨u, hu⟩ : ∃ u, u = str (oneT x.data.toList) := ⟨_, rfl⟩
        have HV : Hid (oneV x.data.toList = .tuple #[.string u, .int .i64 n]) := hide (by rw [hu, ← hn]; rfl)
        have htl := oneT_length x.data.toList
        have hus : u.size ≤ 3 * n := by rw [hu, str_size, ← hn]; exact htl
        have HX := hide hx
        have HN := hide hn
        have HU := hide hu
        have F2 := hide (show l.length - (k + 1) < l.length - k by omega)
        have hk0 : (0 : Int) ≤ k := by omega
        clear htl hx hn hu
        subst ha
        go_wp2_with fail
        refine (one_any x _ hxz (HE.out.kept HB.out).1).mono ?_
        rintro e w1 ⟨rfl, hb1⟩
        rw [HV.out]
        have HB1 := hide (HB.out.trans (hb1.mono HB.out.size))
        have hc1 : w1.cell? (a.add k) = some (.string x) := (hb1.cell (World.block_lt_of_cell? _ _ hc)).trans hc
        clear hb1
        by_cases h0 : n = 0
        · have t2 : ((n : Int) == 0) = true := by rw [h0]; rfl
          clear h0
          go_wp2_with fail
          refine (live5_any _ (HE.out.kept HB1.out)).mono ?_
          rintro e wl ⟨rfl, hbl⟩
          go_wp2_with fail
          go_ret
          exact ⟨rfl, HB1.out.trans (hbl.mono HB1.out.size)⟩
        have t2 : ((n : Int) == 0) = false := by rw [beq_eq_false_iff_ne]; omega
        by_cases hnx : n ≠ x.size
        · have t3 : ((n : Int) == x.size) = false := by rw [beq_eq_false_iff_ne]; omega
          have t4 : ((n : Int) != x.size) = true := by simp [bne, t3]
          clear h0 hnx
          go_wp2_with fail
          refine (live5_any _ (HE.out.kept HB1.out)).mono ?_
          rintro e wl ⟨rfl, hbl⟩
          go_wp2_with fail
          go_ret
          exact ⟨rfl, HB1.out.trans (hbl.mono HB1.out.size)⟩
        replace hnx : n = x.size := Decidable.not_not.1 hnx
        have t3 : ((n : Int) == x.size) = true := by rw [beq_iff_eq]; omega
        have t4 : ((n : Int) != x.size) = false := by simp [bne, t3]
        by_cases h200 : 200 < n
        · have t5 : decide ((200 : Int) < n) = true := decide_eq_true (by omega)
          clear h0 hnx h200
          go_wp2_with fail
          refine (live5_any _ (HE.out.kept HB1.out)).mono ?_
          rintro e wl ⟨rfl, hbl⟩
          go_wp2_with fail
          go_ret
          exact ⟨rfl, HB1.out.trans (hbl.mono HB1.out.size)⟩
        have t5 : decide ((200 : Int) < n) = false := decide_eq_false (by omega)
        obtain ⟨j1, j2⟩ := join_next (B := ⟨#[9]⟩) HJ.out HX.out HN.out h0 hnx (by omega) HU.out rfl (by decide)
        have J1 := hide j1
        have J2 := hide j2
        have hxs : x.size ≤ 200 := by omega
        have hus2 : u.size ≤ 600 := by omega
        have F1 := hide (show k + 1 ≤ l.length by omega)
        clear j1 j2 h0 hnx h200 hus hxz
        by_cases hk00 : k = 0
        · have G := hide (J1.out hk00)
          have t6 : decide ((0 : Int) < (k : Int)) = false := decide_eq_false (by omega)
          have t7 : ¬ 0 < k := by omega
          clear hk00
          go_wp2_with fail
          go_roundw
          case rel => exact ⟨S ++ x, T ++ u, k + 1, rfl, rfl, by go_num, F1.out, HB1, G⟩
          case measure => exact F2.out
        · have G := hide (J2.out hk00)
          have t6 : decide ((0 : Int) < (k : Int)) = true := decide_eq_true (by omega)
          have t7 : 0 < k := by omega
          clear hk00
          go_wp2_with fail
          go_roundw
          case rel => exact ⟨S ++ ⟨#[9]⟩ ++ x, T ++ u, k + 1, rfl, rfl, by go_num, F1.out, HB1, G⟩
          case measure => exact F2.out
      · have HR := hide (join_end (by decide) (by decide) HJ.out (Nat.not_lt.1 hlt))
        have hSz2 : S.size ≤ 1048576 := by omega
        go_wp2_with fail
        refine (wordDecode_any S _ hSz2 (HE.out.kept HB.out).1).mono ?_
        rintro e w2 ⟨rfl, hb2⟩
        rw [HR.out]
        have HB2 := hide (HB.out.trans (hb2.mono HB.out.size))
        clear hb2
        go_wp2_with fail
        refine (live5_any _ (HE.out.kept HB2.out)).mono ?_
        rintro e wl ⟨rfl, hbl⟩
        go_wp2_with fail
        go_ret
        exact ⟨rfl, HB2.out.trans (hbl.mono HB2.out.size)⟩
end Go.Proofs.YtgkpennhpggaaaaDoor
