import Derived.Test.YtiejmkjpgjbodaaGreatDoorBaseO
namespace Go.Proofs.YtiejmkjpgjbodaaGreatDoor
open Go.RowKit
set_option linter.unusedVariables false
set_option linter.unusedSimpArgs false
theorem conv2s (w:World) (x y:Int):(convert 56 9 (.slice (some ⟨w.heap.size,0,none⟩) 2 2)).run Tryz.prog (w.alloc (.cells #[.int .u8 x,.int .u8 y] 5)) = .ok (.string (strOfNums [x,y])) (w.alloc (.cells #[.int .u8 x,.int .u8 y] 5)) :=
 run_convert_bytes_arg (P:=Tryz.prog) _ 56 5 Tryz.underlying56 Tryz.underlying5 w.heap.size 0 2 2 [x,y] rfl (fun i hi=>by
  rw [World.cell?_alloc_at _ _ _ _ (by simp)];obtain rfl | rfl:i = 0 \/ i = 1:=by omega
  all_goals rfl) 9 Tryz.underlying9
theorem conv4s (w:World) (x y z u:Int):(convert 56 9 (.slice (some ⟨w.heap.size,0,none⟩) 4 4)).run Tryz.prog (w.alloc (.cells #[.int .u8 x,.int .u8 y,.int .u8 z,.int .u8 u] 5)) = .ok (.string (strOfNums [x,y,z,u])) (w.alloc (.cells #[.int .u8 x,.int .u8 y,.int .u8 z,.int .u8 u] 5)) :=
 run_convert_bytes_arg (P:=Tryz.prog) _ 56 5 Tryz.underlying56 Tryz.underlying5 w.heap.size 0 4 4 [x,y,z,u] rfl (fun i hi=>by
  rw [World.cell?_alloc_at _ _ _ _ (by simp)];obtain rfl | rfl | rfl | rfl:i = 0 \/ i = 1 \/ i = 2 \/ i = 3:=by omega
  all_goals rfl) 9 Tryz.underlying9
theorem natI (m:Nat):UInt8.ofNat ((m:Nat):Int).toNat = UInt8.ofNat m:=by rw [Int.toNat_natCast]
set_option maxHeartbeats 2000000 in
theorem sign_any (n:Nat) (w:World) (hn:n <= 1114111) :
  Calls Tryz.prog 181 #[.int .i64 n] w fun e w'=>e = .returned (.string (str (runeL n))) /\ Below w.heap.size w w':=by
 have t1:decide ((n:Int) < 0) = false:=decide_eq_false (by omega);have t2:decide ((1114111:Int) < n) = false:=decide_eq_false (by omega)
 by_cases hs:55296 <= n /\ n <= 57343
 ·have t3:decide ((55296:Int) <= n) = true:=decide_eq_true (by omega);have t4:decide ((n:Int) <= 57343) = true:=decide_eq_true (by omega);have HB:Hid (runeL (n:Int) = bad):=hide (runeL_bad (by omega));clear hs hn;go_enter Tryz.func181,Tryz.ntmps181;go_wp2;go_ret;exact ⟨ret_str (by rw [HB.out];rfl),Below.refl _ _⟩
 have t34:decide ((55296:Int) <= n) = false \/ (decide ((55296:Int) <= n) = true /\ decide ((n:Int) <= 57343) = false):=by
  by_cases g:55296 <= n
  ·exact .inr ⟨decide_eq_true (by omega),decide_eq_false (by omega)⟩
  ·exact .inl (decide_eq_false (by omega))
 by_cases h1:n < 128
 ·have HR:Hid (runeL (n:Int) = [UInt8.ofNat n]):=hide (runeL_one h1);have u1:decide ((n:Int) < 128) = true:=decide_eq_true (by omega);have w1:IntKind.u8.wrap (n:Int) = n:=IntWalk.u8_in _ (by omega);have hcv:=conv1;clear hn hs h1;rcases t34 with t3 | ⟨t3,t4⟩
  all_goals
   go_enter Tryz.func181,Tryz.ntmps181;go_wp2;go_ret;exact ⟨ret_str (by rw [HR.out];exact nums_str (by simp only [List.map_cons,List.map_nil,natI])),(Below.refl _ _).alloc (Nat.le_refl _) _⟩
 have u1:decide ((n:Int) < 128) = false:=decide_eq_false (by omega)
 by_cases h2:n < 2048
 ·have HR:Hid (runeL (n:Int) = [UInt8.ofNat (192 + n / 64),UInt8.ofNat (128 + n % 64)]):=hide (runeL_two (by omega) (by omega));have u2:decide ((n:Int) < 2048) = true:=decide_eq_true (by omega);obtain ⟨x,hx⟩:∃ x:Nat,x = n / 64:=⟨_,rfl⟩
  obtain ⟨y,hy⟩:∃ y:Nat,y = n % 64:=⟨_,rfl⟩
  have hx':(n:Int) / 64 = x:=by omega
  have hy':(n:Int) % 64 = y:=by omega
  have hxb:x < 32:=by omega
  have hyb:y < 64:=by omega
  rw [<- hx,<- hy] at HR;have hcv:=conv2s;clear hn hs h1 h2 hx hy;rcases t34 with t3 | ⟨t3,t4⟩
  all_goals
   go_enter Tryz.func181,Tryz.ntmps181;go_wp2;go_ret;exact ⟨ret_str (by rw [HR.out];exact nums_str (by simp only [List.map_cons,List.map_nil];rfl)),(Below.refl _ _).alloc (Nat.le_refl _) _⟩
 have u2:decide ((n:Int) < 2048) = false:=decide_eq_false (by omega)
 by_cases h3:n < 65536
 ·have HR:Hid (runeL (n:Int) = [UInt8.ofNat (224 + n / 4096),UInt8.ofNat (128 + n / 64 % 64),UInt8.ofNat (128 + n % 64)]):=hide (runeL_three (by omega) (by omega) hs);have u3:decide ((n:Int) < 65536) = true:=decide_eq_true (by omega);obtain ⟨x,hx⟩:∃ x:Nat,x = n / 4096:=⟨_,rfl⟩
  obtain ⟨p,hp⟩:∃ p:Nat,p = n / 64:=⟨_,rfl⟩
  obtain ⟨y,hy⟩:∃ y:Nat,y = p % 64:=⟨_,rfl⟩
  obtain ⟨z,hz⟩:∃ z:Nat,z = n % 64:=⟨_,rfl⟩
  have hx':(n:Int) / 4096 = x:=by omega
  have hp':(n:Int) / 64 = p:=by omega
  have hy':(p:Int) % 64 = y:=by omega
  have hz':(n:Int) % 64 = z:=by omega
  have hxb:x < 16:=by omega
  have hyb:y < 64:=by omega
  have hzb:z < 64:=by omega
  rw [<- hx,<- hp,<- hy,<- hz] at HR;have hcv:=conv3;clear hn hs h1 h2 h3 hx hy hz hp;rcases t34 with t3 | ⟨t3,t4⟩
  all_goals
   go_enter Tryz.func181,Tryz.ntmps181;go_wp2;go_ret;exact ⟨ret_str (by rw [HR.out];exact nums_str (by simp only [List.map_cons,List.map_nil];rfl)),(Below.refl _ _).alloc (Nat.le_refl _) _⟩
 ·have HR:Hid (runeL (n:Int) = [UInt8.ofNat (240 + n / 262144),UInt8.ofNat (128 + n / 4096 % 64),UInt8.ofNat (128 + n / 64 % 64),UInt8.ofNat (128 + n % 64)]):=hide (runeL_four (by omega) hn);have u3:decide ((n:Int) < 65536) = false:=decide_eq_false (by omega);obtain ⟨x,hx⟩:∃ x:Nat,x = n / 262144:=⟨_,rfl⟩
  obtain ⟨q,hq⟩:∃ q:Nat,q = n / 4096:=⟨_,rfl⟩
  obtain ⟨p,hp⟩:∃ p:Nat,p = n / 64:=⟨_,rfl⟩
  obtain ⟨y,hy⟩:∃ y:Nat,y = q % 64:=⟨_,rfl⟩
  obtain ⟨z,hz⟩:∃ z:Nat,z = p % 64:=⟨_,rfl⟩
  obtain ⟨u,hu⟩:∃ u:Nat,u = n % 64:=⟨_,rfl⟩
  have hx':(n:Int) / 262144 = x:=by omega
  have hq':(n:Int) / 4096 = q:=by omega
  have hp':(n:Int) / 64 = p:=by omega
  have hy':(q:Int) % 64 = y:=by omega
  have hz':(p:Int) % 64 = z:=by omega
  have hu':(n:Int) % 64 = u:=by omega
  have hxb:x < 8:=by omega
  have hyb:y < 64:=by omega
  have hzb:z < 64:=by omega
  have hub:u < 64:=by omega
  rw [<- hx,<- hq,<- hp,<- hy,<- hz,<- hu] at HR;have hcv:=conv4s;clear hn hs h1 h2 h3 hx hy hz hu hp hq;rcases t34 with t3 | ⟨t3,t4⟩
  all_goals
   go_enter Tryz.func181,Tryz.ntmps181;go_wp2;go_ret;exact ⟨ret_str (by rw [HR.out];exact nums_str (by simp only [List.map_cons,List.map_nil];rfl)),(Below.refl _ _).alloc (Nat.le_refl _) _⟩
theorem win_at (j:Nat) (h:j < 32):∃ m:Nat,winTab.getD j 0 = m /\ m <= 65535:=by
 have:∀ j,j < 32 -> 0 <= winTab.getD j 0 /\ winTab.getD j 0 <= 65535:=by decide +kernel
 exact ⟨(winTab.getD j 0).toNat,by have:=(this j h).1;omega,by have:=(this j h).2;omega⟩
set_option maxRecDepth 100000 in
set_option maxHeartbeats 2000000 in
theorem high_any (c:UInt8) (w:World) (h0:128 <= c.toNat) (h1:c.toNat < 160) :
  Calls Tryz.prog 207 #[.int .u8 c.toNat] w fun e w'=>e = .returned (.int .i64 (winTab.getD (c.toNat - 128) 0)) /\ Below w.heap.size w w':=by
 have e:∃ j:Nat,j < 32 /\ c.toNat = 128 + j:=⟨c.toNat - 128,by omega,by omega⟩
 obtain ⟨j,hj,hc⟩:=e;rw [hc,show 128 + j - 128 = j from by omega];clear h0 h1 hc
 have hcell:∀ z,(w.alloc (.cells #[.int .i64 8364,.int .i64 129,.int .i64 8218,.int .i64 402,.int .i64 8222,.int .i64 8230,.int .i64 8224,.int .i64 8225,.int .i64 710,.int .i64 8240,.int .i64 352,.int .i64 8249,.int .i64 338,.int .i64 141,.int .i64 381,.int .i64 143,.int .i64 144,.int .i64 8216,.int .i64 8217,.int .i64 8220,.int .i64 8221,.int .i64 8226,.int .i64 8211,.int .i64 8212,.int .i64 732,.int .i64 8482,.int .i64 353,.int .i64 8250,.int .i64 339,.int .i64 157,.int .i64 382,.int .i64 376] z)).cell? ⟨w.heap.size,j,none⟩ = some (.int .i64 (winTab.getD j 0)):=by
  intro z;rw [World.cell?_alloc_at _ _ _ _ (by simp)]
  have:∀ j,j < 32 -> (#[Value.int .i64 8364,.int .i64 129,.int .i64 8218,.int .i64 402,.int .i64 8222,.int .i64 8230,.int .i64 8224,.int .i64 8225,.int .i64 710,.int .i64 8240,.int .i64 352,.int .i64 8249,.int .i64 338,.int .i64 141,.int .i64 381,.int .i64 143,.int .i64 144,.int .i64 8216,.int .i64 8217,.int .i64 8220,.int .i64 8221,.int .i64 8226,.int .i64 8211,.int .i64 8212,.int .i64 732,.int .i64 8482,.int .i64 353,.int .i64 8250,.int .i64 339,.int .i64 157,.int .i64 382,.int .i64 376]:Array Value)[j]? = some (.int .i64 (winTab.getD j 0)):=by
   intro j hj;have hw:winTab.length = 32:=rfl;have e:(#[Value.int .i64 8364,.int .i64 129,.int .i64 8218,.int .i64 402,.int .i64 8222,.int .i64 8230,.int .i64 8224,.int .i64 8225,.int .i64 710,.int .i64 8240,.int .i64 352,.int .i64 8249,.int .i64 338,.int .i64 141,.int .i64 381,.int .i64 143,.int .i64 144,.int .i64 8216,.int .i64 8217,.int .i64 8220,.int .i64 8221,.int .i64 8226,.int .i64 8211,.int .i64 8212,.int .i64 732,.int .i64 8482,.int .i64 353,.int .i64 8250,.int .i64 339,.int .i64 157,.int .i64 382,.int .i64 376]:Array Value) = (winTab.map fun z=>Value.int .i64 z).toArray:=rfl;rw [e];simp [List.getD,hw,hj]
  exact this j hj
 have q1:IntKind.u8.wrap (128 + (j:Int) - 128) = j:=by rw [show 128 + (j:Int) - 128 = j from by omega];exact IntWalk.u8_in _ (by omega)
 have hj':(j:Int) < 32:=by omega
 show Calls _ _ #[.int .u8 ((128 + j:Nat):Int)] _ _
 rw [show ((128 + j:Nat):Int) = 128 + (j:Int) from by omega];go_enter Tryz.func207,Tryz.ntmps207;go_wp2;go_ret;exact ⟨rfl,(Below.refl _ _).alloc (Nat.le_refl _) _⟩
end Go.Proofs.YtiejmkjpgjbodaaGreatDoor
