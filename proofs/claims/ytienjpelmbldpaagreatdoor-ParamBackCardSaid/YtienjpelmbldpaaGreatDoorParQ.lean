/- WALKS of muslinlaw07's live, short, few. No statement is proved here. -/
import Derived.Test.YtienjpelmbldpaaGreatDoorParP
import Derived.Test.YtienjpelmbldpaaGreatDoorParN
namespace Go.Proofs.YtienjpelmbldpaaGreatDoor
open Go.RowKit
set_option linter.unusedVariables false
set_option linter.unusedSimpArgs false
set_option maxRecDepth 100000
def liveT : List UInt8 := [84, 101, 120, 116, 47, 80, 108, 97, 105, 110, 59, 32, 78, 97, 109, 101, 61, 34, 97, 92, 34, 98, 59, 34, 59, 32, 120, 42, 61, 117, 116, 102, 45, 56, 39, 101, 110, 39, 37, 99, 51, 37, 97, 57, 59, 32, 121, 42, 48, 61, 97, 59, 32, 121, 42, 49, 42, 61, 37, 50, 48, 98, 59, 32, 122, 42, 49, 61, 113, 59, 32, 61, 118]
theorem live07a : parsP liveT = ([116, 101, 120, 116, 47, 112, 108, 97, 105, 110], [([110, 97, 109, 101], [97, 34, 98, 59]), ([120], [195, 169]), ([121], [97, 32, 98])]) := by decide +kernel
theorem live07b : wrP [97, 47, 98] [([110], [34, 195, 169]), ([109], [34])] = ([97, 47, 98, 59, 32, 110, 42, 61, 117, 116, 102, 45, 56, 39, 39, 37, 50, 50, 37, 67, 51, 37, 65, 57, 59, 32, 109, 61, 34, 92, 34, 34], 0) := by decide +kernel
theorem live07c : wrP [65] [] = ([], 1) := by decide +kernel
theorem pars_new (w : World) (cs : Array Value) (n : Nat) (l : List ParL) (hl : l.length = n) (hn : n ≤ maxLen) (h : cs.toList = parVals l) : ParsIn (w.alloc (.cells cs 37)) (.slice (some ⟨w.heap.size, 0, none⟩) n n) l := by
  subst hl
  refine .inr ⟨⟨w.heap.size, 0, none⟩, l.length, rfl, Nat.le_refl _, hn, fun j hj => ?_⟩
  obtain ⟨e1, e2⟩ := parVals_at (l := l) (j := j) (List.getElem?_eq_getElem hj)
  rw [← h, Array.getElem?_toList] at e1 e2
  rw [Addr.add_lit, Addr.add_lit, World.cell?_alloc_at _ _ _ _ rfl, World.cell?_alloc_at _ _ _ _ rfl]
  exact ⟨by simpa using e1, by simpa using e2⟩
def liveR : List ParL := [([110, 97, 109, 101], [97, 34, 98, 59]), ([120], [195, 169]), ([121], [97, 32, 98])]
set_option maxHeartbeats 4000000 in
theorem live07_any (w : World) (hE : EnvP w) : Calls Tryz.prog 9 #[] w fun e w' => e = .returned (.bool true) ∧ Below w.heap.size w w' := by
  have HE := hide hE
  clear hE
  have H1 : Hid (∀ w, EnvP w → Calls Tryz.prog 10 #[.string ⟨liveT.toArray⟩] w fun e w' => ∃ v, e = .returned (.tuple #[.string ⟨#[116, 101, 120, 116, 47, 112, 108, 97, 105, 110]⟩, v]) ∧ PBuf w.heap.size v liveR w w') := hide (fun w hE => by
    have h := parse07 ⟨liveT.toArray⟩ w (by decide) hE
    rw [show parsP (⟨liveT.toArray⟩ : ByteArray).data.toList = _ from live07a] at h
    exact h)
  have H2 : Hid (optV (getP liveR (⟨#[121]⟩ : ByteArray).data.toList) = .tuple #[.string ⟨#[97, 32, 98]⟩, .bool true]) := hide (by rw [show getP liveR (⟨#[121]⟩ : ByteArray).data.toList = some [97, 32, 98] from by decide]; rfl)
  have H3 : Hid (Value.tuple #[.string (str (wrP (⟨#[97, 47, 98]⟩ : ByteArray).data.toList [([110], [34, 195, 169]), ([109], [34])]).1), .int .i64 (wrP (⟨#[97, 47, 98]⟩ : ByteArray).data.toList [([110], [34, 195, 169]), ([109], [34])]).2] = .tuple #[.string ⟨#[97, 47, 98, 59, 32, 110, 42, 61, 117, 116, 102, 45, 56, 39, 39, 37, 50, 50, 37, 67, 51, 37, 65, 57, 59, 32, 109, 61, 34, 92, 34, 34]⟩, .int .i64 0]) := hide (by
    rw [show wrP (⟨#[97, 47, 98]⟩ : ByteArray).data.toList [([110], [34, 195, 169]), ([109], [34])] = _ from live07b]; rfl)
  have H4 : Hid (Value.tuple #[.string (str (wrP (⟨#[65]⟩ : ByteArray).data.toList []).1), .int .i64 (wrP (⟨#[65]⟩ : ByteArray).data.toList []).2] = .tuple #[.string ⟨#[]⟩, .int .i64 1]) := hide (by
    rw [show wrP (⟨#[65]⟩ : ByteArray).data.toList [] = _ from live07c]; rfl)
  go_enter Tryz.func9, Tryz.ntmps9
  go_wp2_with fail
  refine (H1.out _ HE.out).mono ?_
  rintro e w1 ⟨v1, rfl, hf1⟩
  have hne : liveR ≠ [] := by decide
  obtain ⟨g, c1, rfl, hg1⟩ := hf1.form hne
  have K1 := hide hf1.below
  have F1 := hide hf1.in
  clear hf1 hne hg1
  go_wp2_with fail
  refine (get07_any _ liveR ⟨#[121]⟩ _ F1.out (by decide)).mono ?_
  rintro e w2 ⟨rfl, hb2⟩
  rw [H2.out]
  have K2 := hide (K1.out.trans (hb2.mono K1.out.size))
  have F2 := hide (F1.out.kept hb2)
  clear hb2
  go_wp2_with fail
  refine (write07_any ⟨#[97, 47, 98]⟩ _ [([110], [34, 195, 169]), ([109], [34])] _ _ (pars_new w2 _ 2 _ rfl (by decide) rfl) (by decide) (by decide) (by decide) (by decide +kernel) (HE.out.kept (K2.out.alloc K2.out.size _)).2.1.choose_spec).mono ?_
  rintro e w3 ⟨rfl, hb3⟩
  rw [H3.out]
  have K3 := hide ((K2.out.alloc K2.out.size _).trans (hb3.mono (K2.out.alloc K2.out.size _).size))
  have F3 := hide (F2.out.kept (((Below.refl w2.heap.size w2).alloc (Nat.le_refl _) _).trans (hb3.mono ((Below.refl w2.heap.size w2).alloc (Nat.le_refl _) _).size)))
  clear hb3
  go_wp2_with fail
  refine (write07_any ⟨#[65]⟩ _ [] _ _ (.inl ⟨rfl, rfl⟩) (by decide) (by decide) (by decide) (by decide +kernel) (HE.out.kept K3.out).2.1.choose_spec).mono ?_
  rintro e w4 ⟨rfl, hb4⟩
  rw [H4.out]
  have K4 := hide (K3.out.trans (hb4.mono K3.out.size))
  have F4 := F3.out.kept hb4
  have d0 : w4.cell? ⟨g, 0, none⟩ = some (.string ⟨#[110, 97, 109, 101]⟩) := by
    obtain ⟨a, ha, h0, h1⟩ := F4.at 0 _ rfl
    obtain rfl := Option.some.inj ha
    exact h0
  have d1 : w4.cell? ⟨g, 1, none⟩ = some (.string ⟨#[97, 34, 98, 59]⟩) := by
    obtain ⟨a, ha, h0, h1⟩ := F4.at 0 _ rfl
    obtain rfl := Option.some.inj ha
    exact h1
  have d2 : w4.cell? ⟨g, 2, none⟩ = some (.string ⟨#[120]⟩) := by
    obtain ⟨a, ha, h0, h1⟩ := F4.at 1 _ rfl
    obtain rfl := Option.some.inj ha
    exact h0
  have d3 : w4.cell? ⟨g, 3, none⟩ = some (.string ⟨#[195, 169]⟩) := by
    obtain ⟨a, ha, h0, h1⟩ := F4.at 1 _ rfl
    obtain rfl := Option.some.inj ha
    exact h1
  have hl3 : liveR.length = 3 := rfl
  rw [hl3]
  clear hb4 F4
  go_wp2_with fail
  go_ret
  exact ⟨rfl, K4.out⟩
end Go.Proofs.YtienjpelmbldpaaGreatDoor
