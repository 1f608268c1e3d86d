import Derived.Test.YtlonjggfnleolaaGreatDoorRing
import Derived.Deep.RegionWith
namespace Go.Proofs.YtlonjggfnleolaaGreatDoor
open Go.RowKit
set_option linter.unusedVariables false
set_option maxHeartbeats 400000
def pickN (c:Int)(n:Nat):Nat:=((if c<0 then-(c+1)else c) % n).toNat
theorem pickN_lt (c:Int)(n:Nat)(h:0<n):pickN c n<n:=by
 unfold pickN;have h1:=Int.emod_lt_of_pos (if c<0 then-(c+1)else c) (show(0:Int)<n by omega);have h2:=Int.emod_nonneg (if c<0 then-(c+1)else c) (show(n:Int)≠0 by omega);omega
theorem pickN_eq (c:Int)(n:Nat)(h:0<n):(pickN c n:Int)=(if c<0 then-(c+1)else c) % n:=by
 unfold pickN;have h2:=Int.emod_nonneg (if c<0 then-(c+1)else c) (show(n:Int)≠0 by omega);omega
theorem pick_any (c:Int)(n:Nat)(w:World)(hc:(Lit.int .i64 c).wf=true)(hn:0<n)(hn2:n≤100):Calls Tryz.prog 17 #[.int .i64 c,.int .i64 n] w fun e w'=>e= .returned (.int .i64 (pickN c n))∧w'=w:=by
 obtain⟨b1,b2⟩:=bounds_i64 hc;by_cases h:c<0
 ·go_enter Tryz.func17,Tryz.ntmps17;go_wp2;go_ret;refine⟨ret_int ?_,rfl⟩;rw[pickN_eq c n hn,if_pos h,←Int.neg_tmod,Int.tmod_eq_emod_of_nonneg (by omega)]
 ·have h':¬c<0:=h;go_enter Tryz.func17,Tryz.ntmps17;go_wp2;go_ret;refine⟨ret_int ?_,rfl⟩;rw[pickN_eq c n hn,if_neg (by omega)]
theorem pick_at (c:Int)(n:Nat)(r:Nat)(w:World)(hc:(Lit.int .i64 c).wf=true)(hn:0<n)(hn2:n≤100)(h:pickN c n=r):Calls Tryz.prog 17 #[.int .i64 c,.int .i64 n] w fun e w'=>e= .returned (.int .i64 r)∧w'=w:=by
 subst h;exact pick_any c n w hc hn hn2
def sufS:Nat→List UInt8
 |0=>[]
 |1=>[97]
 |2=>[98]
 |3=>[49]
 |4=>[122,122]
 |_=>[48,48,48,48,48,48,48]
def keyS (k r:Nat):ByteArray:=⟨(UInt8.ofNat (97+k)::sufS r).toArray⟩
theorem keyS_ok:∀k,k<4→∀r,r<6→keyB (keyS k r)=true∧(keyS k r).size≤8:=by decide+kernel
theorem keyS_eq':∀k,k<4→∀r,r<6→(ByteArray.mk #[97,98,99,100]).extract k (k+1)++ByteArray.mk (sufS r).toArray=keyS k r:=by decide+kernel
theorem keyS_eq (k r:Nat)(h:k<4)(h2:r<6):(ByteArray.mk #[97,98,99,100]).extract k (k+1)++ByteArray.mk (sufS r).toArray=keyS k r:=keyS_eq' k h r h2
theorem key_at0 (k:Nat)(c:Int)(w:World)(hc:(Lit.int .i64 c).wf=true)(hk:k<4)(h:pickN c 6=0):Calls Tryz.prog 22 #[.int .i64 k,.int .i64 c] w fun e w'=>e= .returned (.string (keyS k 0))∧Below w.heap.size w w':=by
 have HH:Hid (pickN c 6=0):=h;clear h;have b0:(k:Int)<4:=by omega
 have b1:0≤(k:Int)+1∧(k:Int)+1≤4:=by omega
 have b2:(k:Int)≤(k:Int)+1:=by omega
 have b3:IntKind.i64.wrap ((k:Int)+1)=(k:Int)+1:=by
  have hk':k=0∨k=1∨k=2∨k=3:=by omega
  rcases hk' with rfl|rfl|rfl|rfl<;>decide
 go_enter Tryz.func22,Tryz.ntmps22;go_wp2;go_region_with (go_at_call 17;refine(pick_at c 6 0 _ hc (by omega) (by omega) HH.out).mono ?_;rintro e w' ⟨rfl,rfl⟩)
 all_goals go_wp2
 all_goals go_ret
 all_goals exact⟨ret_str (keyS_eq k 0 (by omega) (by omega)),((Below.refl _ _).alloc (Nat.le_refl _) _).drew⟩
theorem key_at1 (k:Nat)(c:Int)(w:World)(hc:(Lit.int .i64 c).wf=true)(hk:k<4)(h:pickN c 6=1):Calls Tryz.prog 22 #[.int .i64 k,.int .i64 c] w fun e w'=>e= .returned (.string (keyS k 1))∧Below w.heap.size w w':=by
 have HH:Hid (pickN c 6=1):=h;clear h;have b0:(k:Int)<4:=by omega
 have b1:0≤(k:Int)+1∧(k:Int)+1≤4:=by omega
 have b2:(k:Int)≤(k:Int)+1:=by omega
 have b3:IntKind.i64.wrap ((k:Int)+1)=(k:Int)+1:=by
  have hk':k=0∨k=1∨k=2∨k=3:=by omega
  rcases hk' with rfl|rfl|rfl|rfl<;>decide
 go_enter Tryz.func22,Tryz.ntmps22;go_wp2;go_region_with (go_at_call 17;refine(pick_at c 6 1 _ hc (by omega) (by omega) HH.out).mono ?_;rintro e w' ⟨rfl,rfl⟩)
 all_goals go_wp2
 all_goals go_ret
 all_goals exact⟨ret_str (keyS_eq k 1 (by omega) (by omega)),((Below.refl _ _).alloc (Nat.le_refl _) _).drew⟩
theorem key_at2 (k:Nat)(c:Int)(w:World)(hc:(Lit.int .i64 c).wf=true)(hk:k<4)(h:pickN c 6=2):Calls Tryz.prog 22 #[.int .i64 k,.int .i64 c] w fun e w'=>e= .returned (.string (keyS k 2))∧Below w.heap.size w w':=by
 have HH:Hid (pickN c 6=2):=h;clear h;have b0:(k:Int)<4:=by omega
 have b1:0≤(k:Int)+1∧(k:Int)+1≤4:=by omega
 have b2:(k:Int)≤(k:Int)+1:=by omega
 have b3:IntKind.i64.wrap ((k:Int)+1)=(k:Int)+1:=by
  have hk':k=0∨k=1∨k=2∨k=3:=by omega
  rcases hk' with rfl|rfl|rfl|rfl<;>decide
 go_enter Tryz.func22,Tryz.ntmps22;go_wp2;go_region_with (go_at_call 17;refine(pick_at c 6 2 _ hc (by omega) (by omega) HH.out).mono ?_;rintro e w' ⟨rfl,rfl⟩)
 all_goals go_wp2
 all_goals go_ret
 all_goals exact⟨ret_str (keyS_eq k 2 (by omega) (by omega)),((Below.refl _ _).alloc (Nat.le_refl _) _).drew⟩
theorem key_at3 (k:Nat)(c:Int)(w:World)(hc:(Lit.int .i64 c).wf=true)(hk:k<4)(h:pickN c 6=3):Calls Tryz.prog 22 #[.int .i64 k,.int .i64 c] w fun e w'=>e= .returned (.string (keyS k 3))∧Below w.heap.size w w':=by
 have HH:Hid (pickN c 6=3):=h;clear h;have b0:(k:Int)<4:=by omega
 have b1:0≤(k:Int)+1∧(k:Int)+1≤4:=by omega
 have b2:(k:Int)≤(k:Int)+1:=by omega
 have b3:IntKind.i64.wrap ((k:Int)+1)=(k:Int)+1:=by
  have hk':k=0∨k=1∨k=2∨k=3:=by omega
  rcases hk' with rfl|rfl|rfl|rfl<;>decide
 go_enter Tryz.func22,Tryz.ntmps22;go_wp2;go_region_with (go_at_call 17;refine(pick_at c 6 3 _ hc (by omega) (by omega) HH.out).mono ?_;rintro e w' ⟨rfl,rfl⟩)
 all_goals go_wp2
 all_goals go_ret
 all_goals exact⟨ret_str (keyS_eq k 3 (by omega) (by omega)),((Below.refl _ _).alloc (Nat.le_refl _) _).drew⟩
theorem key_at4 (k:Nat)(c:Int)(w:World)(hc:(Lit.int .i64 c).wf=true)(hk:k<4)(h:pickN c 6=4):Calls Tryz.prog 22 #[.int .i64 k,.int .i64 c] w fun e w'=>e= .returned (.string (keyS k 4))∧Below w.heap.size w w':=by
 have HH:Hid (pickN c 6=4):=h;clear h;have b0:(k:Int)<4:=by omega
 have b1:0≤(k:Int)+1∧(k:Int)+1≤4:=by omega
 have b2:(k:Int)≤(k:Int)+1:=by omega
 have b3:IntKind.i64.wrap ((k:Int)+1)=(k:Int)+1:=by
  have hk':k=0∨k=1∨k=2∨k=3:=by omega
  rcases hk' with rfl|rfl|rfl|rfl<;>decide
 go_enter Tryz.func22,Tryz.ntmps22;go_wp2;go_region_with (go_at_call 17;refine(pick_at c 6 4 _ hc (by omega) (by omega) HH.out).mono ?_;rintro e w' ⟨rfl,rfl⟩)
 all_goals go_wp2
 all_goals go_ret
 all_goals exact⟨ret_str (keyS_eq k 4 (by omega) (by omega)),((Below.refl _ _).alloc (Nat.le_refl _) _).drew⟩
theorem key_at5 (k:Nat)(c:Int)(w:World)(hc:(Lit.int .i64 c).wf=true)(hk:k<4)(h:pickN c 6=5):Calls Tryz.prog 22 #[.int .i64 k,.int .i64 c] w fun e w'=>e= .returned (.string (keyS k 5))∧Below w.heap.size w w':=by
 have HH:Hid (pickN c 6=5):=h;clear h;have b0:(k:Int)<4:=by omega
 have b1:0≤(k:Int)+1∧(k:Int)+1≤4:=by omega
 have b2:(k:Int)≤(k:Int)+1:=by omega
 have b3:IntKind.i64.wrap ((k:Int)+1)=(k:Int)+1:=by
  have hk':k=0∨k=1∨k=2∨k=3:=by omega
  rcases hk' with rfl|rfl|rfl|rfl<;>decide
 go_enter Tryz.func22,Tryz.ntmps22;go_wp2;go_region_with (go_at_call 17;refine(pick_at c 6 5 _ hc (by omega) (by omega) HH.out).mono ?_;rintro e w' ⟨rfl,rfl⟩)
 all_goals go_wp2
 all_goals go_ret
 all_goals exact⟨ret_str (keyS_eq k 5 (by omega) (by omega)),((Below.refl _ _).alloc (Nat.le_refl _) _).drew⟩
theorem jkey_any (k:Nat)(c:Int)(w:World)(hc:(Lit.int .i64 c).wf=true)(hk:k<4):Calls Tryz.prog 22 #[.int .i64 k,.int .i64 c] w fun e w'=>e= .returned (.string (keyS k (pickN c 6)))∧Below w.heap.size w w':=by
 have h6:=pickN_lt c 6 (by omega);have hr:pickN c 6=0∨pickN c 6=1∨pickN c 6=2∨pickN c 6=3∨pickN c 6=4∨pickN c 6=5:=by omega
 rcases hr with h|h|h|h|h|h
 ·rw[h];exact key_at0 k c w hc hk h
 ·rw[h];exact key_at1 k c w hc hk h
 ·rw[h];exact key_at2 k c w hc hk h
 ·rw[h];exact key_at3 k c w hc hk h
 ·rw[h];exact key_at4 k c w hc hk h
 ·rw[h];exact key_at5 k c w hc hk h
end Go.Proofs.YtlonjggfnleolaaGreatDoor
