import Derived.Test.YtlonjggfnleolaaGreatDoorLsRef
namespace Go.Proofs.YtlonjggfnleolaaGreatDoor
open Go.RowKit
set_option linter.unusedVariables false
set_option maxHeartbeats 2000000
set_option maxRecDepth 20000
def stB (ak:Int):Int:=if ak=5 then 2 else if ak=4 then 1 else 0
theorem stB_bd (ak:Int):0≤stB ak∧stB ak<256:=by unfold stB;split;omega;split<;>omega
theorem status_plain (ak:Int)(fv vv:Value)(wd:ByteArray)(w:World)(h1:ak≠1):Calls Tryz.prog 248 #[ansV ak fv vv wd] w fun e w'=>e= .returned (.int .i64 (stB ak))∧Below w.heap.size w w':=by
 unfold ansV;have HB:=hide' (show∀x,Below w.heap.size w (w.alloc x)from fun x=>(Below.refl _ _).alloc (Nat.le_refl _) _);have k1:(ak==1)=false:=by simpa using h1
 by_cases h5:ak=5
 ·subst h5;go_enter Tryz.func248,Tryz.ntmps248;go_wp2;go_ret;exact⟨rfl,HB.out _⟩
 ·have k5:(ak==5)=false:=by simpa using h5
  by_cases h4:ak=4
  ·subst h4;go_enter Tryz.func248,Tryz.ntmps248;go_wp2;go_ret;exact⟨rfl,HB.out _⟩
  ·have k4:(ak==4)=false:=by simpa using h4
   have HH:=hide' (show stB ak=0 by unfold stB;rw[if_neg h5,if_neg h4]);clear h1 h5 h4;go_enter Tryz.func248,Tryz.ntmps248;go_wp2;go_ret;exact⟨by rw[HH.out];rfl,HB.out _⟩
theorem status_found (f:Bool)(b o c n:Nat)(vv:Value)(wd:ByteArray)(w:World)(hn:1≤n)(hc:n≤c)(hb:b<w.heap.size)(hf:w.cell? ⟨b,o,none⟩=some (.bool f)):Calls Tryz.prog 248 #[ansV 1 (.slice (some ⟨b,o,none⟩) n c) vv wd] w fun e w'=>e= .returned (.int .i64 (bif f then 0 else 1))∧Below w.heap.size w w':=by
 unfold ansV;have HB:=hide' (show∀x,Below w.heap.size w (w.alloc x)from fun x=>(Below.refl _ _).alloc (Nat.le_refl _) _);cases f with
 |true=>
  go_enter Tryz.func248,Tryz.ntmps248;go_wp2;go_ret;exact⟨rfl,HB.out _⟩
 |false=>
  go_enter Tryz.func248,Tryz.ntmps248;go_wp2;go_ret;exact⟨rfl,HB.out _⟩
def tidB (ck id:Int):Int:=if ck=4 then 0 else id
theorem frTell_plain (ck:Int)(kv:Value)(val cw:ByteArray)(ft:Bool)(cid:Int)(ak:Int)(fv vv:Value)(wd:ByteArray)(id:Int)(w:World)(h1:ak≠1)(i0:0≤id)(i1:id≤65535):Calls Tryz.prog 245 #[.agg #[],cmdV6 ck kv val cw ft cid,ansV ak fv vv wd,.int .i64 id] w fun e w'=>e= .returned (.string (headB 2 (stB ak) 0 0 (tidB ck id)))∧Below w.heap.size w w':=by
 have HB3:=hide' (show∀x y z,Below w.heap.size w (((w.alloc x).alloc y).alloc z)from fun x y z=>(((Below.refl _ _).alloc (Nat.le_refl _) _).alloc (by simp) _).alloc (by simp;omega) _);have HS:Hid (∀W,Calls Tryz.prog 248 #[ansV ak fv vv wd] W fun e w'=>e= .returned (.int .i64 (stB ak))∧Below W.heap.size W w'):=fun W=>status_plain ak fv vv wd W h1
 have hs:=stB_bd ak;have hsz:(headB 2 (stB ak) 0 0 (tidB ck id)).size=7:=by unfold headB;rw[strOfNums_size];rfl
 have k1:(ak==1)=false:=by simpa using h1
 have HF:Hid (∀i W,0≤i→i≤65535→Calls Tryz.prog 180 #[.int .i64 2,.int .i64 (stB ak),.int .i64 0,.int .i64 0,.int .i64 i] W fun e w'=>e= .returned (.string (headB 2 (stB ak) 0 0 i))∧Below W.heap.size W w'):=fun i W a b=>frame_any 2 (stB ak) 0 0 i W (by omega) (by omega) (by omega) (by omega) (by omega)
 generalize stB ak=S at*;clear h1;unfold cmdV6 ansV at*;by_cases h4:ck=4
 ·subst h4;have e:tidB 4 id=0:=rfl;rw[e]at*;go_enter Tryz.func245,Tryz.ntmps245;go_wp2_with fail
  go_at_call 248;refine(HS.out _).mono ?_;rintro e w1 ⟨rfl,hb1⟩;have H1:=hide' ((HB3.out _ _ _).trans (hb1.mono (by simp;omega)));clear hb1;go_wp2_with fail
  go_at_call 180;refine(HF.out 0 _ (by omega) (by omega)).mono ?_;rintro e w2 ⟨rfl,hb2⟩;have H2:=hide' (H1.out.trans (hb2.mono H1.out.size));clear hb2;go_wp2;go_ret;exact⟨ret_str rfl,H2.out⟩
 ·have k4:(ck==4)=false:=by simpa using h4
  have e:tidB ck id=id:=by unfold tidB;rw[if_neg h4]
  rw[e]at*;go_enter Tryz.func245,Tryz.ntmps245;go_wp2_with fail
  go_at_call 248;refine(HS.out _).mono ?_;rintro e w1 ⟨rfl,hb1⟩;have H1:=hide' ((HB3.out _ _ _).trans (hb1.mono (by simp;omega)));clear hb1;go_wp2_with fail
  go_at_call 180;refine(HF.out id _ i0 i1).mono ?_;rintro e w2 ⟨rfl,hb2⟩;have H2:=hide' (H1.out.trans (hb2.mono H1.out.size));clear hb2;go_wp2;go_ret;exact⟨ret_str rfl,H2.out⟩
theorem frTell_found (kv:Value)(val cw:ByteArray)(ft:Bool)(cid:Int)(f:Bool)(x:ByteArray)(fb fo fc vb vo vc:Nat)(wd:ByteArray)(id:Int)(w:World)(i0:0≤id)(i1:id≤65535)(hx:x.size≤40)(hfc:1≤fc)(hvc:1≤vc)(hfb:fb<w.heap.size)(hvb:vb<w.heap.size)(hf:w.cell? ⟨fb,fo,none⟩=some (.bool f))(hv:w.cell? ⟨vb,vo,none⟩=some (.string x)):Calls Tryz.prog 245 #[.agg #[],cmdV6 1 kv val cw ft cid,ansV 1 (.slice (some ⟨fb,fo,none⟩) 1 fc) (.slice (some ⟨vb,vo,none⟩) 1 vc) wd,.int .i64 id] w fun e w'=>e= .returned (.string (headB 2 (bif f then 0 else 1) 0 x.size id++x))∧Below w.heap.size w w':=by
 have HB3:=hide' (show∀x y z,Below w.heap.size w (((w.alloc x).alloc y).alloc z)from fun x y z=>(((Below.refl _ _).alloc (Nat.le_refl _) _).alloc (by simp) _).alloc (by simp;omega) _);have HS:Hid (∀W,Below w.heap.size w W→Calls Tryz.prog 248 #[ansV 1 (.slice (some ⟨fb,fo,none⟩) 1 fc) (.slice (some ⟨vb,vo,none⟩) 1 vc) wd] W fun e w'=>e= .returned (.int .i64 (bif f then 0 else 1))∧Below W.heap.size W w'):=fun W hW=>status_found f fb fo fc 1 _ wd W (by omega) hfc (Nat.lt_of_lt_of_le hfb hW.size) ((hW.cell (p:=⟨fb,fo,none⟩) hfb).trans hf)
 have hs:0≤(bif f then(0:Int)else 1)∧(bif f then(0:Int)else 1)<256:=by cases f<;>simp
 have hsz:(headB 2 (bif f then 0 else 1) 0 x.size id).size=7:=by unfold headB;rw[strOfNums_size];rfl
 have g1:¬9223372036854775807<7+x.size:=by omega
 have HF:Hid (∀W,Calls Tryz.prog 180 #[.int .i64 2,.int .i64 (bif f then 0 else 1),.int .i64 0,.int .i64 x.size,.int .i64 id] W fun e w'=>e= .returned (.string (headB 2 (bif f then 0 else 1) 0 x.size id))∧Below W.heap.size W w'):=fun W=>frame_any 2 (bif f then 0 else 1) 0 x.size id W (by omega) (by omega) (by omega) (by omega) (by omega)
 generalize (bif f then(0:Int)else 1)=S at*;clear hf;have q1:vb<w.heap.size+1:=by omega
 have q2:vb<w.heap.size+1+1:=by omega
 have q3:vb<w.heap.size+1+1+1:=by omega
 unfold cmdV6 ansV at*;go_enter Tryz.func245,Tryz.ntmps245;go_wp2_with fail
 go_at_call 248;refine(HS.out _ (HB3.out _ _ _)).mono ?_;rintro e w1 ⟨rfl,hb1⟩;have H1:=hide' ((HB3.out _ _ _).trans (hb1.mono (by simp;omega)));clear hb1;go_wp2_with fail
 go_at_call 180;refine(HF.out _).mono ?_;rintro e w2 ⟨rfl,hb2⟩;have H2:=hide' (H1.out.trans (hb2.mono H1.out.size));clear hb2;go_wp2;go_ret;exact⟨ret_str rfl,H2.out⟩
end Go.Proofs.YtlonjggfnleolaaGreatDoor
