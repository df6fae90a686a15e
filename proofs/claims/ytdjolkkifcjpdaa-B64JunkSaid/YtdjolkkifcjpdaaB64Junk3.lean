/- The law B64Junk, whatever its arguments. No statement is proved here. -/
import Derived.Test.YtdjolkkifcjpdaaB64Junk2
namespace Go.Proofs.Ytdjolkkifcjpdaa
open Go.RowKit
set_option linter.unusedVariables false
set_option linter.unusedSimpArgs false
theorem law_B64Junk (s : ByteArray) (hs : s.size ≤ maxLen) (z : Int) (hz : (Lit.int .i64 z).wf = true) (a : Int) (ha : (Lit.int .u8 a).wf = true) (w : World) :
    Calls Try.prog 8 #[.string s, .int .i64 z, .int .u8 a] w fun e w' => e = .returned (.bool true) ∧ Below w.heap.size w w' := by
  have hz1 : z ≤ 9223372036854775807 := by
    have h := hz
    have hmax : IntKind.i64.max = 9223372036854775807 := rfl
    simp only [Lit.wf, Bool.and_eq_true, decide_eq_true_eq] at h
    omega
  obtain ⟨c, rfl⟩ : ∃ c : UInt8, a = (c.toNat : Int) := by
    have h := ha
    have hmin : IntKind.u8.min = 0 := rfl
    have hmax : IntKind.u8.max = 255 := rfl
    simp only [Lit.wf, Bool.and_eq_true, decide_eq_true_eq] at h
    refine ⟨UInt8.ofNat a.toNat, ?_⟩
    rw [UInt8.toNat_ofNat', Nat.mod_eq_of_lt (by omega)]
    omega
  by_cases h1 : s.size ≤ 2000
  · by_cases h2 : 0 ≤ z
    · by_cases h : (c.toNat = 61 ∨ c.toNat = 43 ∨ c.toNat = 47 ∨ (48 ≤ c.toNat ∧ c.toNat ≤ 57) ∨ (97 ≤ c.toNat ∧ c.toNat ≤ 122) ∨ (65 ≤ c.toNat ∧ c.toNat ≤ 90))
      · exact junk_live s hs z c w (.inr (.inr ⟨h1, h2, h⟩))
      · have hr : c.toNat < 48 ∨ (57 < c.toNat ∧ c.toNat < 65) ∨ (90 < c.toNat ∧ c.toNat < 97) ∨ 122 < c.toNat := by omega
        rcases hr with hr | hr | hr | hr
        · exact junk_real1 s h1 z c w h2 hz1 h hr
        · exact junk_real2 s h1 z c w h2 hz1 h hr
        · exact junk_real3 s h1 z c w h2 hz1 h hr
        · exact junk_real4 s h1 z c w h2 hz1 h hr
    · exact junk_live s hs z c w (.inr (.inl ⟨h1, by omega⟩))
  · exact junk_live s hs z c w (.inl (by omega))
end Go.Proofs.Ytdjolkkifcjpdaa
