import Derived.Test.YtmgpmdfmkdhfgaaGreatDoorRefWh0
import Derived.Test.YtmgpmdfmkdhfgaaGreatDoorRefWh2
import Derived.Test.YtmgpmdfmkdhfgaaGreatDoorRefWh3
import Derived.Test.YtmgpmdfmkdhfgaaGreatDoorRefWh4
namespace Go.Proofs.YtmgpmdfmkdhfgaaGreatDoor
open Go.RowKit
set_option linter.unusedVariables false
set_option linter.unusedSimpArgs false
theorem whole_any (s:ByteArray) (k:Nat) (w:World) (hs:s.size <= 70368744177664) (hk:k < s.size) :
  Calls Tryz.prog 23 #[.string s,.int .i64 k] w fun e w'=>e = .returned (.int .i64 (wholeN (s.data.toList.drop k))) /\ w = w':=by
 have e:=drop_cons s k hk;rw [e]
 by_cases h1:s[k].toNat < 128
 ·rw [w1 h1];exact whole1 s k w hs hk _ rfl h1
 by_cases h2:s[k].toNat < 192
 ·rw [w0 (by omega) (.inl h2)];exact whole0 s k w hs hk _ rfl (by omega) (.inl h2)
 by_cases h3:s[k].toNat < 224
 ·by_cases hz:k + 2 <= s.size
  ·rw [drop_cons s (k + 1) (by omega),w2 (by omega) h3,<- w2 (r:=[]) (by omega) h3];exact wholeL2 s k w hs hk _ rfl (by omega) h3 hz _ rfl
  ·rw [drop_nil s (k + 1) (by omega),w2' (by omega) h3];exact wholeS2 s k w hs hk _ rfl (by omega) h3 (by omega)
 by_cases h4:s[k].toNat < 240
 ·by_cases hz:k + 3 <= s.size
  ·rw [drop_cons s (k + 1) (by omega),drop_cons s (k + 2) (by omega),w3 (by omega) h4,<- w3 (r:=[]) (by omega) h4];exact wholeL3 s k w hs hk _ rfl (by omega) h4 hz _ rfl _ rfl
  ·rw [w3' (by omega) h4 (by rw [List.length_drop,toList_length];omega)];exact wholeS3 s k w hs hk _ rfl (by omega) h4 (by omega)
 by_cases h5:s[k].toNat < 248
 ·by_cases hz:k + 4 <= s.size
  ·rw [drop_cons s (k + 1) (by omega),drop_cons s (k + 2) (by omega),drop_cons s (k + 3) (by omega),w4 (by omega) h5,<- w4 (r:=[]) (by omega) h5];exact wholeL4 s k w hs hk _ rfl (by omega) h5 hz _ rfl _ rfl _ rfl
  ·rw [w4' (by omega) h5 (by rw [List.length_drop,toList_length];omega)];exact wholeS4 s k w hs hk _ rfl (by omega) h5 (by omega)
 ·rw [w0 (by omega) (.inr (by omega))];exact whole0 s k w hs hk _ rfl (by omega) (.inr (by omega))
end Go.Proofs.YtmgpmdfmkdhfgaaGreatDoor
