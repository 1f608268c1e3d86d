import Derived.Test.YtlonjggfnleolaaGreatDoorJuQa
namespace Go.Proofs.YtlonjggfnleolaaGreatDoor
open Go.RowKit
set_option linter.unusedVariables false
set_option maxHeartbeats 2000000
set_option maxRecDepth 20000
def stB (ak:Int):Int:=if ak=5 then 2 else if ak=4 then 1 else 0
theorem stB_bd (ak:Int):0≤stB ak∧stB ak<256:=by unfold stB;split;omega;split<;>omega
theorem status_plain (ak:Int)(fv vv:Value)(wd:ByteArray)(w:World)(h1:ak≠1):Calls Tryz.prog 248 #[ansV ak fv vv wd] w fun e w'=>e= .returned (.int .i64 (stB ak))∧Below w.heap.size w w':=by
 unfold ansV;have HB:=hide' (show∀x,Below w.heap.size w (w.alloc x)from fun x=>(Below.refl _ _).alloc (Nat.le_refl _) _);have k1:(ak==1)=false:=by simpa using h1
 by_cases h5:ak=5
 ·subst h5;go_enter Tryz.func248,Tryz.ntmps248;go_wp2;go_ret;exact⟨rfl,HB.out _⟩
 ·have k5:(ak==5)=false:=by simpa using h5
  by_cases h4:ak=4
  ·subst h4;go_enter Tryz.func248,Tryz.ntmps248;go_wp2;go_ret;exact⟨rfl,HB.out _⟩
  ·have k4:(ak==4)=false:=by simpa using h4
   have HH:=hide' (show stB ak=0 by unfold stB;rw[if_neg h5,if_neg h4]);clear h1 h5 h4;go_enter Tryz.func248,Tryz.ntmps248;go_wp2;go_ret;exact⟨by rw[HH.out];rfl,HB.out _⟩
theorem status_found (f:Bool)(b o c n:Nat)(vv:Value)(wd:ByteArray)(w:World)(hn:1≤n)(hc:n≤c)(hb:b<w.heap.size)(hf:w.cell? ⟨b,o,none⟩=some (.bool f)):Calls Tryz.prog 248 #[ansV 1 (.slice (some ⟨b,o,none⟩) n c) vv wd] w fun e w'=>e= .returned (.int .i64 (bif f then 0 else 1))∧Below w.heap.size w w':=by
 unfold ansV;have HB:=hide' (show∀x,Below w.heap.size w (w.alloc x)from fun x=>(Below.refl _ _).alloc (Nat.le_refl _) _);cases f with
 |true=>
  go_enter Tryz.func248,Tryz.ntmps248;go_wp2;go_ret;exact⟨rfl,HB.out _⟩
 |false=>
  go_enter Tryz.func248,Tryz.ntmps248;go_wp2;go_ret;exact⟨rfl,HB.out _⟩
def tidB (ck id:Int):Int:=if ck=4 then 0 else id
theorem frTell_plain (ck:Int)(kv:Value)(val cw:ByteArray)(ft:Bool)(cid:Int)(ak:Int)(fv vv:Value)(wd:ByteArray)(id:Int)(w:World)(h1:ak≠1)(i0:0≤id)(i1:id≤65535):Calls Tryz.prog 245 #[.agg #[],cmdV6 ck kv val cw ft cid,ansV ak fv vv wd,.int .i64 id] w fun e w'=>e= .returned (.string (headB 2 (stB ak) 0 0 (tidB ck id)))∧Below w.heap.size w w':=by
 have HB3:=hide' (show∀x y z,Below w.heap.size w (((w.alloc x).alloc y).alloc z)from fun x y z=>(((Below.refl _ _).alloc (Nat.le_refl _) _).alloc (by simp) _).alloc (by simp;omega) _);have HS:Hid (∀W,Calls Tryz.prog 248 #[ansV ak fv vv wd] W fun e w'=>e= .returned (.int .i64 (stB ak))∧Below W.heap.size W w'):=fun W=>status_plain ak fv vv wd W h1
 have hs:=stB_bd ak;have hsz:(headB 2 (stB ak) 0 0 (tidB ck id)).size=7:=by unfold headB;rw[strOfNums_size];rfl
 have k1:(ak==1)=false:=by simpa using h1
 have HF:Hid (∀i W,0≤i→i≤65535→Calls Tryz.prog 180 #[.int .i64 2,.int .i64 (stB ak),.int .i64 0,.int .i64 0,.int .i64 i] W fun e w'=>e= .returned (.string (headB 2 (stB ak) 0 0 i))∧Below W.heap.size W w'):=fun i W a b=>frame_any 2 (stB ak) 0 0 i W (by omega) (by omega) (by omega) (by omega) (by omega)
 generalize stB ak=S at*;clear h1;unfold cmdV6 ansV at*;by_cases h4:ck=4
 ·subst h4;have e:tidB 4 id=0:=rfl;rw[e]at*;go_enter Tryz.func245,Tryz.ntmps245;go_wp2_with fail
  go_at_call 248;refine(HS.out _).mono ?_;rintro e w1 ⟨rfl,hb1⟩;have H1:=hide' ((HB3.out _ _ _).trans (hb1.mono (by simp;omega)));clear hb1;go_wp2_with fail
  go_at_call 180;refine(HF.out 0 _ (by omega) (by omega)).mono ?_;rintro e w2 ⟨rfl,hb2⟩;have H2:=hide' (H1.out.trans (hb2.mono H1.out.size));clear hb2;go_wp2;go_ret;exact⟨ret_str rfl,H2.out⟩
 ·have k4:(ck==4)=false:=by simpa using h4
  have e:tidB ck id=id:=by unfold tidB;rw[if_neg h4]
  rw[e]at*;go_enter Tryz.func245,Tryz.ntmps245;go_wp2_with fail
  go_at_call 248;refine(HS.out _).mono ?_;rintro e w1 ⟨rfl,hb1⟩;have H1:=hide' ((HB3.out _ _ _).trans (hb1.mono (by simp;omega)));clear hb1;go_wp2_with fail
  go_at_call 180;refine(HF.out id _ i0 i1).mono ?_;rintro e w2 ⟨rfl,hb2⟩;have H2:=hide' (H1.out.trans (hb2.mono H1.out.size));clear hb2;go_wp2;go_ret;exact⟨ret_str rfl,H2.out⟩
theorem frTell_found (kv:Value)(val cw:ByteArray)(ft:Bool)(cid:Int)(f:Bool)(x:ByteArray)(fb fo fc vb vo vc:Nat)(wd:ByteArray)(id:Int)(w:World)(i0:0≤id)(i1:id≤65535)(hx:x.size≤40)(hfc:1≤fc)(hvc:1≤vc)(hfb:fb<w.heap.size)(hvb:vb<w.heap.size)(hf:w.cell? ⟨fb,fo,none⟩=some (.bool f))(hv:w.cell? ⟨vb,vo,none⟩=some (.string x)):Calls Tryz.prog 245 #[.agg #[],cmdV6 1 kv val cw ft cid,ansV 1 (.slice (some ⟨fb,fo,none⟩) 1 fc) (.slice (some ⟨vb,vo,none⟩) 1 vc) wd,.int .i64 id] w fun e w'=>e= .returned (.string (headB 2 (bif f then 0 else 1) 0 x.size id++x))∧Below w.heap.size w w':=by
 have HB3:=hide' (show∀x y z,Below w.heap.size w (((w.alloc x).alloc y).alloc z)from fun x y z=>(((Below.refl _ _).alloc (Nat.le_refl _) _).alloc (by simp) _).alloc (by simp;omega) _);have HS:Hid (∀W,Below w.heap.size w W→Calls Tryz.prog 248 #[ansV 1 (.slice (some ⟨fb,fo,none⟩) 1 fc) (.slice (some ⟨vb,vo,none⟩) 1 vc) wd] W fun e w'=>e= .returned (.int .i64 (bif f then 0 else 1))∧Below W.heap.size W w'):=fun W hW=>status_found f fb fo fc 1 _ wd W (by omega) hfc (Nat.lt_of_lt_of_le hfb hW.size) ((hW.cell (p:=⟨fb,fo,none⟩) hfb).trans hf)
 have hs:0≤(bif f then(0:Int)else 1)∧(bif f then(0:Int)else 1)<256:=by cases f<;>simp
 have hsz:(headB 2 (bif f then 0 else 1) 0 x.size id).size=7:=by unfold headB;rw[strOfNums_size];rfl
 have g1:¬9223372036854775807<7+x.size:=by omega
 have HF:Hid (∀W,Calls Tryz.prog 180 #[.int .i64 2,.int .i64 (bif f then 0 else 1),.int .i64 0,.int .i64 x.size,.int .i64 id] W fun e w'=>e= .returned (.string (headB 2 (bif f then 0 else 1) 0 x.size id))∧Below W.heap.size W w'):=fun W=>frame_any 2 (bif f then 0 else 1) 0 x.size id W (by omega) (by omega) (by omega) (by omega) (by omega)
 generalize (bif f then(0:Int)else 1)=S at*;clear hf;have q1:vb<w.heap.size+1:=by omega
 have q2:vb<w.heap.size+1+1:=by omega
 have q3:vb<w.heap.size+1+1+1:=by omega
 unfold cmdV6 ansV at*;go_enter Tryz.func245,Tryz.ntmps245;go_wp2_with fail
 go_at_call 248;refine(HS.out _ (HB3.out _ _ _)).mono ?_;rintro e w1 ⟨rfl,hb1⟩;have H1:=hide' ((HB3.out _ _ _).trans (hb1.mono (by simp;omega)));clear hb1;go_wp2_with fail
 go_at_call 180;refine(HF.out _).mono ?_;rintro e w2 ⟨rfl,hb2⟩;have H2:=hide' (H1.out.trans (hb2.mono H1.out.size));clear hb2;go_wp2;go_ret;exact⟨ret_str rfl,H2.out⟩
theorem refFrames_plain (ak:Int)(fv vv:Value)(wd:ByteArray)(id:Int)(w:World)(h1:ak≠1)(i0:0≤id)(i1:id≤65535):Calls Tryz.prog 146 #[ansV ak fv vv wd,.int .i64 id] w fun e w'=>e= .returned (.string (headB 2 (stB ak) 0 0 id))∧Below w.heap.size w w':=by
 have HB:=hide' (show∀x,Below w.heap.size w (w.alloc x)from fun x=>(Below.refl _ _).alloc (Nat.le_refl _) _);have HF:Hid (∀S W,0≤S→S<256→Calls Tryz.prog 141 #[.int .i64 2,.int .i64 S,.int .i64 0,.int .i64 0,.int .i64 id] W fun e w'=>e= .returned (.string (headB 2 S 0 0 id))∧Below W.heap.size W w'):=fun S W a b=>head_any 2 S 0 0 id W (by omega) (by omega) (by omega) (by omega) (by omega)
 have k1:(ak==1)=false:=by simpa using h1
 unfold ansV at*;by_cases h5:ak=5
 ·subst h5;go_enter Tryz.func146,Tryz.ntmps146;go_wp2_with fail
  go_at_call 141;refine(HF.out 2 _ (by omega) (by omega)).mono ?_;rintro e w1 ⟨rfl,hb1⟩;have H1:=hide' ((HB.out _).trans (hb1.mono (by simp)));clear hb1;go_wp2;go_ret;exact⟨ret_str rfl,H1.out⟩
 ·have k5:(ak==5)=false:=by simpa using h5
  by_cases h4:ak=4
  ·subst h4;go_enter Tryz.func146,Tryz.ntmps146;go_wp2_with fail
   go_at_call 141;refine(HF.out 1 _ (by omega) (by omega)).mono ?_;rintro e w1 ⟨rfl,hb1⟩;have H1:=hide' ((HB.out _).trans (hb1.mono (by simp)));clear hb1;go_wp2;go_ret;exact⟨ret_str rfl,H1.out⟩
  ·have k4:(ak==4)=false:=by simpa using h4
   have HH:=hide' (show stB ak=0 by unfold stB;rw[if_neg h5,if_neg h4]);clear h1 h5 h4;go_enter Tryz.func146,Tryz.ntmps146;go_wp2_with fail
   go_at_call 141;refine(HF.out 0 _ (by omega) (by omega)).mono ?_;rintro e w1 ⟨rfl,hb1⟩;have H1:=hide' ((HB.out _).trans (hb1.mono (by simp)));clear hb1;go_wp2;go_ret;exact⟨ret_str (by rw[HH.out]),H1.out⟩
theorem refFrames_no (fb fo fc:Nat)(vv:Value)(wd:ByteArray)(id:Int)(w:World)(i0:0≤id)(i1:id≤65535)(hfc:1≤fc)(hfb:fb<w.heap.size)(hf:w.cell? ⟨fb,fo,none⟩=some (.bool false)):Calls Tryz.prog 146 #[ansV 1 (.slice (some ⟨fb,fo,none⟩) 1 fc) vv wd,.int .i64 id] w fun e w'=>e= .returned (.string (headB 2 1 0 0 id))∧Below w.heap.size w w':=by
 have HB:=hide' (show∀x,Below w.heap.size w (w.alloc x)from fun x=>(Below.refl _ _).alloc (Nat.le_refl _) _);have HF:Hid (∀W,Calls Tryz.prog 141 #[.int .i64 2,.int .i64 1,.int .i64 0,.int .i64 0,.int .i64 id] W fun e w'=>e= .returned (.string (headB 2 1 0 0 id))∧Below W.heap.size W w'):=fun W=>head_any 2 1 0 0 id W (by omega) (by omega) (by omega) (by omega) (by omega)
 unfold ansV at*;have q1:fb<w.heap.size+1:=by omega
 go_enter Tryz.func146,Tryz.ntmps146;go_wp2_with fail
 go_at_call 141;refine(HF.out _).mono ?_;rintro e w1 ⟨rfl,hb1⟩;have H1:=hide' ((HB.out _).trans (hb1.mono (by simp)));clear hb1;go_wp2;go_ret;exact⟨ret_str rfl,H1.out⟩
theorem refFrames_yes (x:ByteArray)(fb fo fc vb vo vc:Nat)(wd:ByteArray)(id:Int)(w:World)(i0:0≤id)(i1:id≤65535)(hx:x.size≤40)(hfc:1≤fc)(hvc:1≤vc)(hfb:fb<w.heap.size)(hvb:vb<w.heap.size)(hf:w.cell? ⟨fb,fo,none⟩=some (.bool true))(hv:w.cell? ⟨vb,vo,none⟩=some (.string x)):Calls Tryz.prog 146 #[ansV 1 (.slice (some ⟨fb,fo,none⟩) 1 fc) (.slice (some ⟨vb,vo,none⟩) 1 vc) wd,.int .i64 id] w fun e w'=>e= .returned (.string (headB 2 0 0 x.size id++x))∧Below w.heap.size w w':=by
 have HB:=hide' (show∀x,Below w.heap.size w (w.alloc x)from fun x=>(Below.refl _ _).alloc (Nat.le_refl _) _);have HF:Hid (∀W,Calls Tryz.prog 141 #[.int .i64 2,.int .i64 0,.int .i64 0,.int .i64 x.size,.int .i64 id] W fun e w'=>e= .returned (.string (headB 2 0 0 x.size id))∧Below W.heap.size W w'):=fun W=>head_any 2 0 0 x.size id W (by omega) (by omega) (by omega) (by omega) (by omega)
 have hsz:(headB 2 0 0 x.size id).size=7:=by unfold headB;rw[strOfNums_size];rfl
 have g1:¬9223372036854775807<7+x.size:=by omega
 unfold ansV at*;have p1:fb<w.heap.size+1:=by omega
 have q1:vb<w.heap.size+1:=by omega
 go_enter Tryz.func146,Tryz.ntmps146;go_wp2;go_region_held3 (fun w'=>w'.cell? ⟨w.heap.size,2,none⟩=some (.slice (some ⟨vb,vo,none⟩) 1 vc)∧w'.cell? ⟨vb,vo,none⟩=some (.string x)) (go_keep)
  (first|(go_at_call 141;refine(HF.out _).mono ?_;rintro e w5 ⟨rfl,hB5⟩;have hS5:=(hB5.cell (p:=⟨w.heap.size,2,none⟩) (by simp));have hS6:=(hB5.cell (p:=⟨vb,vo,none⟩) (by simp;omega));have HB5:=hide3 hB5;clear hB5))
 all_goals
  go_wp2
  go_ret
  exact⟨ret_str rfl,(below_drewN (HB.out _) _).trans (HB5.out.mono (by simp))⟩
set_option maxHeartbeats 2000000
set_option maxRecDepth 20000
variable {p:Bool×ByteArray×ByteArray}
def valB (p:Bool×ByteArray×ByteArray):ByteArray:=bif p.1 then⟨#[118,97,108,117,101,32]⟩++p.2.1++⟨#[32]⟩++sizedB p.2.2 else⟨#[]⟩
def liFold (ts:List (Bool×ByteArray×ByteArray)):ByteArray:=ts.foldl (fun s p=>s++valB p) ⟨#[]⟩
theorem valB_size (hk:p.2.1.size≤8)(hv:p.2.2.size≤40):(valB p).size≤59:=by
 have:=sizedB_size hv;have e1:(ByteArray.mk #[118,97,108,117,101,32]).size=6:=rfl;have e2:(ByteArray.mk #[32]).size=1:=rfl;unfold valB;cases p.1
 ·exact Nat.zero_le _
 ·show(_++_++_++_:ByteArray).size≤_;rw[ByteArray.size_append,ByteArray.size_append,ByteArray.size_append];omega
theorem liFoldA_size (a:ByteArray)(ts:List (Bool×ByteArray×ByteArray))(h:∀p∈ts,p.2.1.size≤8∧p.2.2.size≤40):(ts.foldl (fun s p=>s++valB p) a).size≤a.size+59*ts.length:=by
 induction ts generalizing a with
 |nil=>simp
 |cons x t ih=>
  have h1:=ih (a++valB x) (fun s hs=>h s (List.mem_cons_of_mem _ hs));have h2:=h x (List.mem_cons_self ..);have h3:=valB_size h2.1 h2.2;rw[ByteArray.size_append]at h1;rw[List.foldl_cons,List.length_cons];omega
theorem liFold_step {ts:List (Bool×ByteArray×ByteArray)}{j:Nat}(h:ts[j]?=some p):liFold (ts.take (j+1))=liFold (ts.take j)++valB p:=by
 rw[List.take_add_one,h];simp[liFold,List.foldl_append]
theorem refLines_found (a fa va:Option Addr)(n c fc vc:Nat)(ss:List ByteArray)(bs:List Bool)(vs:List ByteArray)(val cw:ByteArray)(ft:Bool)(cid:Int)(wd:ByteArray)(w:World)(hs:StrsIn w a n c ss)(hf:BoolsIn w fa n fc bs)(hv:StrsIn w va n vc vs)(hn:n≤4)(hk8:∀s∈ss,s.size≤8)(hv40:∀s∈vs,s.size≤40):Calls Tryz.prog 145 #[cmdV6 1 (.slice a n c) val cw ft cid,ansV 1 (.slice fa n fc) (.slice va n vc) wd] w fun e w'=>e= .returned (.string (liFold (bs.zip (ss.zip vs))++⟨#[101,110,100,10]⟩))∧Below w.heap.size w w':=by
 have HB2:=hide' (show∀x y,Below w.heap.size w ((w.alloc x).alloc y)from fun x y=>((Below.refl _ _).alloc (Nat.le_refl _) _).alloc (by simp) _);have hc:=hs.cap;have hfc:=hf.cap;have hvc:=hv.cap;have HSx:=hide' (fun x y=>(hs.later (HB2.out x y)).at);have HFx:=hide' (fun x y=>(hf.later (HB2.out x y)).at);have HVx:=hide' (fun x y=>(hv.later (HB2.out x y)).at);have HSL:=hide' hs.len;have HFL:=hide' hf.len;have HVL:=hide' hv.len;have HK8:=hide' hk8;have HV40:=hide' hv40;have HQ:Hid (∀(x:ByteArray) (W:World),x.size<100→Calls Tryz.prog 142 #[.int .i64 x.size] W fun e w'=>e= .returned (.string (dec100 x.size))∧∃q,w'=W.drewN q):=fun x W h=>decimal_any x.size W h
 have hts:∀j:Nat,(liFold ((bs.zip (ss.zip vs)).take j)).size≤236:=fun j=>by
  have h1:=liFoldA_size ⟨#[]⟩ ((bs.zip (ss.zip vs)).take j) (fun p hp=>by
   have hp:=List.mem_of_mem_take hp;have h2:=(List.of_mem_zip hp).2;exact⟨hk8 _ (List.of_mem_zip h2).1,hv40 _ (List.of_mem_zip h2).2⟩)
  have h2:((bs.zip (ss.zip vs)).take j).length≤4:=by simp[hs.len,hf.len,hv.len];omega
  have e0:(ByteArray.mk #[]).size=0:=rfl;unfold liFold;omega
 have HTS:=hide' hts;clear hs hf hv hk8 hv40 hts;have HZ:Hid (∀(j:Nat) f k v,bs[j]?=some f→ss[j]?=some k→vs[j]?=some v→(bs.zip (ss.zip vs))[j]?=some (f,k,v)):=fun j f k v a b c=>by
  rw[List.getElem?_zip_eq_some];exact⟨a,by rw[List.getElem?_zip_eq_some];exact⟨b,c⟩⟩
 have HTL:Hid ((bs.zip (ss.zip vs)).take n=bs.zip (ss.zip vs)):=List.take_of_length_le (by simp;have:=HFL.out;omega);generalize bs.zip (ss.zip vs)=ts at*;unfold cmdV6 ansV at*;go_enter Tryz.func145,Tryz.ntmps145;go_wp2;go_loopw [5,6] (fun s i wr=>∃j q:Nat,j≤n∧i= .int .i64 j∧s= .string (liFold (ts.take j))∧wr=((w.alloc (.cells #[.int .i64 1,.slice a n c,.string val,.string cw,.bool ft,.int .i64 cid] 36)).alloc (.cells #[.int .i64 1,.slice fa n fc,.slice va n vc,.string wd] 91)).drewN q) (fun _ i _=>n-(intOf i).toNat)
 case atStart=>exact⟨0,0,Nat.zero_le _,rfl,rfl,rfl⟩
 case round=>
  obtain⟨j,q,hj,rfl,rfl,rfl⟩:=hrel;have hzj:=HTS.out j;by_cases hlt:j<n
  ·obtain⟨k,hk⟩:∃x,ss[j]?=some x:=⟨ss[j]'(by rw[HSL.out];exact hlt),List.getElem?_eq_getElem _⟩
   obtain⟨f,hf⟩:∃x,bs[j]?=some x:=⟨bs[j]'(by rw[HFL.out];exact hlt),List.getElem?_eq_getElem _⟩
   obtain⟨x,hx⟩:∃x,vs[j]?=some x:=⟨vs[j]'(by rw[HVL.out];exact hlt),List.getElem?_eq_getElem _⟩
   have HX:=hide' (liFold_step (HZ.out j f k x hf hk hx));have hm:=HK8.out k (List.mem_of_getElem? hk);have hx40:=HV40.out x (List.mem_of_getElem? hx);obtain⟨kb,ko,rfl,hkb,hkc⟩:=HSx.out (.cells #[.int .i64 1,.slice a n c,.string val,.string cw,.bool ft,.int .i64 cid] 36) (.cells #[.int .i64 1,.slice fa n fc,.slice va n vc,.string wd] 91) j k hk;obtain⟨fb,fo,rfl,hfb,hfcc⟩:=HFx.out (.cells #[.int .i64 1,.slice (some ⟨kb,ko,none⟩) n c,.string val,.string cw,.bool ft,.int .i64 cid] 36) (.cells #[.int .i64 1,.slice fa n fc,.slice va n vc,.string wd] 91) j f hf;obtain⟨vb,vo,rfl,hvb,hvcc⟩:=HVx.out (.cells #[.int .i64 1,.slice (some ⟨kb,ko,none⟩) n c,.string val,.string cw,.bool ft,.int .i64 cid] 36) (.cells #[.int .i64 1,.slice (some ⟨fb,fo,none⟩) n fc,.slice va n vc,.string wd] 91) j x hx
   clear hk hf hx HSx HFx HVx HZ;have dz:=dec100_size x.size;generalize liFold (ts.take j)=S at*;cases f with
   |true=>
    have HY:=hide' (show S++⟨#[118,97,108,117,101,32]⟩++k++⟨#[32]⟩++dec100 x.size++⟨#[10]⟩++x++⟨#[10]⟩=liFold (ts.take (j+1))by rw[HX.out];simp[valB,sizedB,ByteArray.append_assoc]);clear HX;have g1:¬9223372036854775807<S.size+6:=by omega
    have g2:¬9223372036854775807<S.size+6+k.size:=by omega
    have g3:¬9223372036854775807<S.size+6+k.size+1:=by omega
    have g4:¬9223372036854775807<S.size+6+k.size+1+(dec100 x.size).size:=by omega
    have g5:¬9223372036854775807<S.size+6+k.size+1+(dec100 x.size).size+1:=by omega
    have g6:¬9223372036854775807<S.size+6+k.size+1+(dec100 x.size).size+1+x.size:=by omega
    have g7:¬9223372036854775807<S.size+6+k.size+1+(dec100 x.size).size+1+x.size+1:=by omega
    go_wp2;go_quiet ((go_at_call 142;refine(HQ.out x _ (by omega)).mono ?_;rintro e w9 ⟨rfl,m9,rfl⟩;refine⟨rfl,?_⟩;simp only[World.drewN_drewN,Nat.add_assoc];exact⟨_,rfl⟩))
    go_wp2;go_round
    case rel=>exact⟨j+1,_,by omega,by go_num,by rw[HY.out],rfl⟩
    case measure=>simp[intOf];omega
   |false=>
    have HY:=hide' (show S=liFold (ts.take (j+1))by rw[HX.out];apply ba_ext;simp[valB]);clear HX;go_wp2;go_round
    case rel=>exact⟨j+1,_,by omega,by go_num,by rw[HY.out],rfl⟩
    case measure=>simp[intOf];omega
  ·have hj2:j=n:=by omega
   subst hj2;go_wp2;go_ret;exact⟨ret_str (by rw[HTL.out]),below_drewN (HB2.out _ _) _⟩
set_option maxHeartbeats 2000000
set_option maxRecDepth 20000
variable {p:Bool×ByteArray}
def tvB (p:Bool×ByteArray):ByteArray:=bif p.1 then textB p.2 else⟨#[36,45,49,10]⟩
def lsFold (ts:List (Bool×ByteArray)):ByteArray:=ts.foldl (fun s p=>s++tvB p) ⟨#[]⟩
def lsVals (n:Nat)(ts:List (Bool×ByteArray)):ByteArray:=if n=1 then lsFold ts else⟨#[42]⟩++dec100 n++⟨#[10]⟩++lsFold ts
theorem tvB_size (hv:p.2.size≤40):(tvB p).size≤45:=by
 have:=textB_size hv;unfold tvB;cases p.1
 ·show(ByteArray.mk #[36,45,49,10]).size≤45;decide
 ·exact this
theorem lsFoldA_size (a:ByteArray)(ts:List (Bool×ByteArray))(h:∀p∈ts,p.2.size≤40):(ts.foldl (fun s p=>s++tvB p) a).size≤a.size+45*ts.length:=by
 induction ts generalizing a with
 |nil=>simp
 |cons x t ih=>
  have h1:=ih (a++tvB x) (fun s hs=>h s (List.mem_cons_of_mem _ hs));have h3:=tvB_size (h x (List.mem_cons_self ..));rw[ByteArray.size_append]at h1;rw[List.foldl_cons,List.length_cons];omega
theorem lsFold_step {ts:List (Bool×ByteArray)}{j:Nat}(h:ts[j]?=some p):lsFold (ts.take (j+1))=lsFold (ts.take j)++tvB p:=by
 rw[List.take_add_one,h];simp[lsFold,List.foldl_append]
theorem refLists_found (fa va:Option Addr)(n fc vc:Nat)(bs:List Bool)(vs:List ByteArray)(wd:ByteArray)(w:World)(hf:BoolsIn w fa n fc bs)(hv:StrsIn w va n vc vs)(hn:n≤4)(hv40:∀s∈vs,s.size≤40):Calls Tryz.prog 147 #[ansV 1 (.slice fa n fc) (.slice va n vc) wd] w fun e w'=>e= .returned (.string (lsVals n (bs.zip vs)))∧Below w.heap.size w w':=by
 have HB:=hide' (show∀x,Below w.heap.size w (w.alloc x)from fun x=>(Below.refl _ _).alloc (Nat.le_refl _) _);have hfc:=hf.cap;have hvc:=hv.cap;have HFx:=hide' (fun x=>(hf.later (HB.out x)).at);have HVx:=hide' (fun x=>(hv.later (HB.out x)).at);have HFL:=hide' hf.len;have HVL:=hide' hv.len;have HV40:=hide' hv40;have HT:Hid (∀(x:ByteArray) (W:World),x.size<100→Calls Tryz.prog 143 #[.string x] W fun e w'=>e= .returned (.string (textB x))∧∃q,w'=W.drewN q):=fun x W hx=>refText_any x W hx
 have HQ:Hid (∀W:World,Calls Tryz.prog 142 #[.int .i64 n] W fun e w'=>e= .returned (.string (dec100 n))∧∃q,w'=W.drewN q):=fun W=>decimal_any n W (by omega)
 have hts:∀j:Nat,(lsFold ((bs.zip vs).take j)).size≤180:=fun j=>by
  have h1:=lsFoldA_size ⟨#[]⟩ ((bs.zip vs).take j) (fun p hp=>hv40 _ (List.of_mem_zip (List.mem_of_mem_take hp)).2);have h2:((bs.zip vs).take j).length≤4:=by simp[hf.len,hv.len];omega
  have e0:(ByteArray.mk #[]).size=0:=rfl;unfold lsFold;omega
 have HTS:=hide' hts;clear hf hv hv40 hts;have HZ:Hid (∀(j:Nat) f v,bs[j]?=some f→vs[j]?=some v→(bs.zip vs)[j]?=some (f,v)):=fun j f v a c=>by
  rw[List.getElem?_zip_eq_some];exact⟨a,c⟩
 have HTL:Hid ((bs.zip vs).take n=bs.zip vs):=List.take_of_length_le (by simp;have:=HFL.out;omega);generalize bs.zip vs=ts at*;unfold ansV at*;go_enter Tryz.func147,Tryz.ntmps147;go_wp2;go_loopw [3,4] (fun s i wr=>∃j q:Nat,j≤n∧i= .int .i64 j∧s= .string (lsFold (ts.take j))∧wr=(w.alloc (.cells #[.int .i64 1,.slice fa n fc,.slice va n vc,.string wd] 91)).drewN q) (fun _ i _=>n-(intOf i).toNat)
 case atStart=>exact⟨0,0,Nat.zero_le _,rfl,rfl,rfl⟩
 case round=>
  obtain⟨j,q,hj,rfl,rfl,rfl⟩:=hrel;have hzj:=HTS.out j;by_cases hlt:j<n
  ·obtain⟨f,hf⟩:∃x,bs[j]?=some x:=⟨bs[j]'(by rw[HFL.out];exact hlt),List.getElem?_eq_getElem _⟩
   obtain⟨x,hx⟩:∃x,vs[j]?=some x:=⟨vs[j]'(by rw[HVL.out];exact hlt),List.getElem?_eq_getElem _⟩
   have HX:=hide' (lsFold_step (HZ.out j f x hf hx));have hx40:=HV40.out x (List.mem_of_getElem? hx);obtain⟨fb,fo,rfl,hfb,hfcc⟩:=HFx.out (.cells #[.int .i64 1,.slice fa n fc,.slice va n vc,.string wd] 91) j f hf;obtain⟨vb,vo,rfl,hvb,hvcc⟩:=HVx.out (.cells #[.int .i64 1,.slice (some ⟨fb,fo,none⟩) n fc,.slice va n vc,.string wd] 91) j x hx;clear hf hx HFx HVx HZ;have tx:=textB_size (s:=x) (by omega);generalize lsFold (ts.take j)=S at*;cases f with
   |true=>
    have HY:=hide' (show S++textB x=lsFold (ts.take (j+1))by rw[HX.out];rfl);clear HX;go_wp2_with fail
    go_at_call 143;refine(HT.out x _ (by omega)).mono ?_;rintro e w4 ⟨rfl,q4,rfl⟩;go_wp2;go_round
    case rel=>exact⟨j+1,_,by omega,by go_num,by rw[HY.out],rfl⟩
    case measure=>simp[intOf];omega
   |false=>
    have HY:=hide' (show S++⟨#[36,45,49,10]⟩=lsFold (ts.take (j+1))by rw[HX.out];rfl);clear HX;go_wp2;go_round
    case rel=>exact⟨j+1,_,by omega,by go_num,by rw[HY.out],rfl⟩
    case measure=>simp[intOf];omega
  ·have hj2:j=n:=by omega
   subst hj2;by_cases h1:j=1
   ·subst h1;have HR:=hide' (show lsFold (ts.take 1)=lsVals 1 ts by unfold lsVals;rw[if_pos rfl,HTL.out]);go_wp2;go_ret;exact⟨ret_str HR.out,below_drewN (HB.out _) _⟩
   ·have h1':((j:Int)==1)=false:=by simp;omega
    have HR:=hide' (show⟨#[42]⟩++dec100 j++⟨#[10]⟩++lsFold (ts.take j)=lsVals j ts by unfold lsVals;rw[if_neg h1,HTL.out]);have dz:=dec100_size j;go_wp2_with fail
    go_at_call 142;refine(HQ.out _).mono ?_;rintro e w4 ⟨rfl,q4,rfl⟩;go_wp2;go_ret;exact⟨ret_str HR.out,below_drewN (HB.out _) _⟩
set_option maxHeartbeats 2000000
set_option maxRecDepth 20000
theorem refTell_bada (d:Int)(ck:Int)(a:Option Addr)(n c:Nat)(ss:List ByteArray)(val cw:ByteArray)(ft:Bool)(cid:Int)(ak:Int)(fa va:Option Addr)(fn fc vn vc:Nat)(bs:List Bool)(vs:List ByteArray)(wd:ByteArray)(id:Int)(w:World)(hs:StrsIn w a n c ss)(hval:val.size≤maxLen)(hf:BoolsIn w fa fn fc bs)(hv:StrsIn w va vn vc vs)(hw:wd.size≤maxLen)(ha:answerB ck ss val ak bs vs wd=false):Calls Tryz.prog 104 #[.int .i64 d,cmdV6 ck (.slice a n c) val cw ft cid,ansV ak (.slice fa fn fc) (.slice va vn vc) wd,.int .i64 id] w fun e w'=>e= .returned (.tuple #[.string ⟨#[]⟩,.int .i64 1])∧Below w.heap.size w w':=by
 have HB2:=hide' (show∀x y,Below w.heap.size w ((w.alloc x).alloc y)from fun x y=>((Below.refl _ _).alloc (Nat.le_refl _) _).alloc (by simp) _);have HC:Hid (∀x y,Calls Tryz.prog 144 #[cmdV6 ck (.slice a n c) val cw ft cid,ansV ak (.slice fa fn fc) (.slice va vn vc) wd] ((w.alloc x).alloc y) fun e w'=>e= .returned (.bool (answerB ck ss val ak bs vs wd))∧Below ((w.alloc x).alloc y).heap.size ((w.alloc x).alloc y) w'):=fun x y=>refanswer_any ck a n c ss val cw ft cid ak fa va fn fc vn vc bs vs wd _ (hs.later (HB2.out x y)) hval (hf.later (HB2.out x y)) (hv.later (HB2.out x y)) hw
 have HS:Hid (∀W,Calls Tryz.prog 140 #[.int .i64 d,cmdV6 ck (.slice a n c) val cw ft cid,.int .i64 id] W fun e w'=>e= .returned (.bool (sayB d ck n id))∧Below W.heap.size W w'):=fun W=>sayable_any d ck a n c val cw ft cid id W
 rw[ha]at HC;generalize sayB d ck n id=S at*;clear hs hval hf hv hw ha;unfold cmdV6 ansV at*;go_enter Tryz.func104,Tryz.ntmps104;go_wp2_with fail
 go_at_call 144;refine(HC.out _ _).mono ?_;rintro e w1 ⟨rfl,hb1⟩;obtain⟨hc1,hf1⟩:=bcell hb1;have hz1:w.heap.size+1<w1.heap.size:=by have:=hb1.size;simp at this;omega
 have hy1:w.heap.size<w1.heap.size:=by omega
 have H1:=hide' ((HB2.out _ _).trans (hb1.mono (by simp;omega)));clear hb1;go_wp2_with fail
 go_at_call 140;refine(HS.out _).mono ?_;rintro e w2 ⟨rfl,hb2⟩;obtain⟨hc2,hf2⟩:=bcell hb2;have hz2:w.heap.size+1<w2.heap.size:=by have:=hb2.size;omega
 have hy2:w.heap.size<w2.heap.size:=by omega
 have H2:=hide' (H1.out.trans (hb2.mono H1.out.size));clear hb2 HC HS H1 HB2;go_wp2;go_ret2;exact⟨rfl,H2.out⟩
theorem refTell_badb (d:Int)(ck:Int)(a:Option Addr)(n c:Nat)(ss:List ByteArray)(val cw:ByteArray)(ft:Bool)(cid:Int)(ak:Int)(fa va:Option Addr)(fn fc vn vc:Nat)(bs:List Bool)(vs:List ByteArray)(wd:ByteArray)(id:Int)(w:World)(hs:StrsIn w a n c ss)(hval:val.size≤maxLen)(hf:BoolsIn w fa fn fc bs)(hv:StrsIn w va vn vc vs)(hw:wd.size≤maxLen)(ha:answerB ck ss val ak bs vs wd=true)(hd:sayB d ck n id=false):Calls Tryz.prog 104 #[.int .i64 d,cmdV6 ck (.slice a n c) val cw ft cid,ansV ak (.slice fa fn fc) (.slice va vn vc) wd,.int .i64 id] w fun e w'=>e= .returned (.tuple #[.string ⟨#[]⟩,.int .i64 1])∧Below w.heap.size w w':=by
 have HB2:=hide' (show∀x y,Below w.heap.size w ((w.alloc x).alloc y)from fun x y=>((Below.refl _ _).alloc (Nat.le_refl _) _).alloc (by simp) _);have HC:Hid (∀x y,Calls Tryz.prog 144 #[cmdV6 ck (.slice a n c) val cw ft cid,ansV ak (.slice fa fn fc) (.slice va vn vc) wd] ((w.alloc x).alloc y) fun e w'=>e= .returned (.bool (answerB ck ss val ak bs vs wd))∧Below ((w.alloc x).alloc y).heap.size ((w.alloc x).alloc y) w'):=fun x y=>refanswer_any ck a n c ss val cw ft cid ak fa va fn fc vn vc bs vs wd _ (hs.later (HB2.out x y)) hval (hf.later (HB2.out x y)) (hv.later (HB2.out x y)) hw
 have HS:Hid (∀W,Calls Tryz.prog 140 #[.int .i64 d,cmdV6 ck (.slice a n c) val cw ft cid,.int .i64 id] W fun e w'=>e= .returned (.bool (sayB d ck n id))∧Below W.heap.size W w'):=fun W=>sayable_any d ck a n c val cw ft cid id W
 rw[ha]at HC;rw[hd]at HS;clear hs hval hf hv hw ha;unfold cmdV6 ansV at*;go_enter Tryz.func104,Tryz.ntmps104;go_wp2_with fail
 go_at_call 144;refine(HC.out _ _).mono ?_;rintro e w1 ⟨rfl,hb1⟩;obtain⟨hc1,hf1⟩:=bcell hb1;have hz1:w.heap.size+1<w1.heap.size:=by have:=hb1.size;simp at this;omega
 have hy1:w.heap.size<w1.heap.size:=by omega
 have H1:=hide' ((HB2.out _ _).trans (hb1.mono (by simp;omega)));clear hb1;go_wp2_with fail
 go_at_call 140;refine(HS.out _).mono ?_;rintro e w2 ⟨rfl,hb2⟩;obtain⟨hc2,hf2⟩:=bcell hb2;have hz2:w.heap.size+1<w2.heap.size:=by have:=hb2.size;omega
 have hy2:w.heap.size<w2.heap.size:=by omega
 have H2:=hide' (H1.out.trans (hb2.mono H1.out.size));clear hb2 HC HS H1 HB2;go_wp2;go_ret2;exact⟨rfl,H2.out⟩
theorem refTell_good1 (ck:Int)(a:Option Addr)(n c:Nat)(ss:List ByteArray)(val cw:ByteArray)(ft:Bool)(cid:Int)(ak:Int)(fa va:Option Addr)(fn fc vn vc:Nat)(bs:List Bool)(vs:List ByteArray)(wd:ByteArray)(id:Int)(w:World)(hs:StrsIn w a n c ss)(hval:val.size≤maxLen)(hf:BoolsIn w fa fn fc bs)(hv:StrsIn w va vn vc vs)(hw:wd.size≤maxLen)(ha:answerB ck ss val ak bs vs wd=true)(out:ByteArray)(HO:∀W,Below w.heap.size w W→Calls Tryz.prog 145 #[cmdV6 ck (.slice a n c) val cw ft cid,ansV ak (.slice fa fn fc) (.slice va vn vc) wd] W fun e w'=>e= .returned (.string out)∧Below W.heap.size W w'):Calls Tryz.prog 104 #[.int .i64 1,cmdV6 ck (.slice a n c) val cw ft cid,ansV ak (.slice fa fn fc) (.slice va vn vc) wd,.int .i64 id] w fun e w'=>e= .returned (.tuple #[.string out,.int .i64 0])∧Below w.heap.size w w':=by
 have HB2:=hide' (show∀x y,Below w.heap.size w ((w.alloc x).alloc y)from fun x y=>((Below.refl _ _).alloc (Nat.le_refl _) _).alloc (by simp) _);have HC:Hid (∀x y,Calls Tryz.prog 144 #[cmdV6 ck (.slice a n c) val cw ft cid,ansV ak (.slice fa fn fc) (.slice va vn vc) wd] ((w.alloc x).alloc y) fun e w'=>e= .returned (.bool (answerB ck ss val ak bs vs wd))∧Below ((w.alloc x).alloc y).heap.size ((w.alloc x).alloc y) w'):=fun x y=>refanswer_any ck a n c ss val cw ft cid ak fa va fn fc vn vc bs vs wd _ (hs.later (HB2.out x y)) hval (hf.later (HB2.out x y)) (hv.later (HB2.out x y)) hw
 have HS:Hid (∀W,Calls Tryz.prog 140 #[.int .i64 1,cmdV6 ck (.slice a n c) val cw ft cid,.int .i64 id] W fun e w'=>e= .returned (.bool (sayB 1 ck n id))∧Below W.heap.size W w'):=fun W=>sayable_any 1 ck a n c val cw ft cid id W
 rw[ha]at HC;rw[show sayB 1 ck n id=true from rfl]at HS;have HOO:=hide' HO;clear hs hval hf hv hw ha HO;unfold cmdV6 ansV at*;go_enter Tryz.func104,Tryz.ntmps104;go_wp2_with fail
 go_at_call 144;refine(HC.out _ _).mono ?_;rintro e w1 ⟨rfl,hb1⟩;obtain⟨hc1,hf1⟩:=bcell hb1;have hz1:w.heap.size+1<w1.heap.size:=by have:=hb1.size;simp at this;omega
 have hy1:w.heap.size<w1.heap.size:=by omega
 have H1:=hide' ((HB2.out _ _).trans (hb1.mono (by simp;omega)));clear hb1;go_wp2_with fail
 go_at_call 140;refine(HS.out _).mono ?_;rintro e w2 ⟨rfl,hb2⟩;obtain⟨hc2,hf2⟩:=bcell hb2;have hz2:w.heap.size+1<w2.heap.size:=by have:=hb2.size;omega
 have hy2:w.heap.size<w2.heap.size:=by omega
 have H2:=hide' (H1.out.trans (hb2.mono H1.out.size));clear hb2 HC HS H1 HB2;go_wp2_with fail
 go_at_call 145;refine(HOO.out _ H2.out).mono ?_;rintro e w3 ⟨rfl,hb3⟩;have H3:=hide' (H2.out.trans (hb3.mono H2.out.size));clear hb3;go_wp2;go_ret2;exact⟨rfl,H3.out⟩
theorem refTell_good3 (ck:Int)(a:Option Addr)(n c:Nat)(ss:List ByteArray)(val cw:ByteArray)(ft:Bool)(cid:Int)(ak:Int)(fa va:Option Addr)(fn fc vn vc:Nat)(bs:List Bool)(vs:List ByteArray)(wd:ByteArray)(id:Int)(w:World)(hs:StrsIn w a n c ss)(hval:val.size≤maxLen)(hf:BoolsIn w fa fn fc bs)(hv:StrsIn w va vn vc vs)(hw:wd.size≤maxLen)(ha:answerB ck ss val ak bs vs wd=true)(out:ByteArray)(HO:∀W,Below w.heap.size w W→Calls Tryz.prog 147 #[ansV ak (.slice fa fn fc) (.slice va vn vc) wd] W fun e w'=>e= .returned (.string out)∧Below W.heap.size W w'):Calls Tryz.prog 104 #[.int .i64 3,cmdV6 ck (.slice a n c) val cw ft cid,ansV ak (.slice fa fn fc) (.slice va vn vc) wd,.int .i64 id] w fun e w'=>e= .returned (.tuple #[.string out,.int .i64 0])∧Below w.heap.size w w':=by
 have HB2:=hide' (show∀x y,Below w.heap.size w ((w.alloc x).alloc y)from fun x y=>((Below.refl _ _).alloc (Nat.le_refl _) _).alloc (by simp) _);have HC:Hid (∀x y,Calls Tryz.prog 144 #[cmdV6 ck (.slice a n c) val cw ft cid,ansV ak (.slice fa fn fc) (.slice va vn vc) wd] ((w.alloc x).alloc y) fun e w'=>e= .returned (.bool (answerB ck ss val ak bs vs wd))∧Below ((w.alloc x).alloc y).heap.size ((w.alloc x).alloc y) w'):=fun x y=>refanswer_any ck a n c ss val cw ft cid ak fa va fn fc vn vc bs vs wd _ (hs.later (HB2.out x y)) hval (hf.later (HB2.out x y)) (hv.later (HB2.out x y)) hw
 have HS:Hid (∀W,Calls Tryz.prog 140 #[.int .i64 3,cmdV6 ck (.slice a n c) val cw ft cid,.int .i64 id] W fun e w'=>e= .returned (.bool (sayB 3 ck n id))∧Below W.heap.size W w'):=fun W=>sayable_any 3 ck a n c val cw ft cid id W
 rw[ha]at HC;rw[show sayB 3 ck n id=true from rfl]at HS;have HOO:=hide' HO;clear hs hval hf hv hw ha HO;unfold cmdV6 ansV at*;go_enter Tryz.func104,Tryz.ntmps104;go_wp2_with fail
 go_at_call 144;refine(HC.out _ _).mono ?_;rintro e w1 ⟨rfl,hb1⟩;obtain⟨hc1,hf1⟩:=bcell hb1;have hz1:w.heap.size+1<w1.heap.size:=by have:=hb1.size;simp at this;omega
 have hy1:w.heap.size<w1.heap.size:=by omega
 have H1:=hide' ((HB2.out _ _).trans (hb1.mono (by simp;omega)));clear hb1;go_wp2_with fail
 go_at_call 140;refine(HS.out _).mono ?_;rintro e w2 ⟨rfl,hb2⟩;obtain⟨hc2,hf2⟩:=bcell hb2;have hz2:w.heap.size+1<w2.heap.size:=by have:=hb2.size;omega
 have hy2:w.heap.size<w2.heap.size:=by omega
 have H2:=hide' (H1.out.trans (hb2.mono H1.out.size));clear hb2 HC HS H1 HB2;go_wp2_with fail
 go_at_call 147;refine(HOO.out _ H2.out).mono ?_;rintro e w3 ⟨rfl,hb3⟩;have H3:=hide' (H2.out.trans (hb3.mono H2.out.size));clear hb3;go_wp2;go_ret2;exact⟨rfl,H3.out⟩
theorem refTell_good2w (a:Option Addr)(n c:Nat)(ss:List ByteArray)(val cw:ByteArray)(ft:Bool)(cid:Int)(ak:Int)(fa va:Option Addr)(fn fc vn vc:Nat)(bs:List Bool)(vs:List ByteArray)(wd:ByteArray)(id:Int)(w:World)(hs:StrsIn w a n c ss)(hval:val.size≤maxLen)(hf:BoolsIn w fa fn fc bs)(hv:StrsIn w va vn vc vs)(hw:wd.size≤maxLen)(ha:answerB 4 ss val ak bs vs wd=true)(hd:sayB 2 4 n id=true)(out:ByteArray)(HO:∀W,Below w.heap.size w W→Calls Tryz.prog 146 #[ansV ak (.slice fa fn fc) (.slice va vn vc) wd,.int .i64 0] W fun e w'=>e= .returned (.string out)∧Below W.heap.size W w'):Calls Tryz.prog 104 #[.int .i64 2,cmdV6 4 (.slice a n c) val cw ft cid,ansV ak (.slice fa fn fc) (.slice va vn vc) wd,.int .i64 id] w fun e w'=>e= .returned (.tuple #[.string out,.int .i64 0])∧Below w.heap.size w w':=by
 have HB2:=hide' (show∀x y,Below w.heap.size w ((w.alloc x).alloc y)from fun x y=>((Below.refl _ _).alloc (Nat.le_refl _) _).alloc (by simp) _);have HC:Hid (∀x y,Calls Tryz.prog 144 #[cmdV6 4 (.slice a n c) val cw ft cid,ansV ak (.slice fa fn fc) (.slice va vn vc) wd] ((w.alloc x).alloc y) fun e w'=>e= .returned (.bool (answerB 4 ss val ak bs vs wd))∧Below ((w.alloc x).alloc y).heap.size ((w.alloc x).alloc y) w'):=fun x y=>refanswer_any 4 a n c ss val cw ft cid ak fa va fn fc vn vc bs vs wd _ (hs.later (HB2.out x y)) hval (hf.later (HB2.out x y)) (hv.later (HB2.out x y)) hw
 have HS:Hid (∀W,Calls Tryz.prog 140 #[.int .i64 2,cmdV6 4 (.slice a n c) val cw ft cid,.int .i64 id] W fun e w'=>e= .returned (.bool (sayB 2 4 n id))∧Below W.heap.size W w'):=fun W=>sayable_any 2 4 a n c val cw ft cid id W
 rw[ha]at HC;rw[hd]at HS;have HOO:=hide' HO;clear hs hval hf hv hw ha HO hd;unfold cmdV6 ansV at*;go_enter Tryz.func104,Tryz.ntmps104;go_wp2_with fail
 go_at_call 144;refine(HC.out _ _).mono ?_;rintro e w1 ⟨rfl,hb1⟩;obtain⟨hc1,hf1⟩:=bcell hb1;have hz1:w.heap.size+1<w1.heap.size:=by have:=hb1.size;simp at this;omega
 have hy1:w.heap.size<w1.heap.size:=by omega
 have H1:=hide' ((HB2.out _ _).trans (hb1.mono (by simp;omega)));clear hb1;go_wp2_with fail
 go_at_call 140;refine(HS.out _).mono ?_;rintro e w2 ⟨rfl,hb2⟩;obtain⟨hc2,hf2⟩:=bcell hb2;have hz2:w.heap.size+1<w2.heap.size:=by have:=hb2.size;omega
 have hy2:w.heap.size<w2.heap.size:=by omega
 have H2:=hide' (H1.out.trans (hb2.mono H1.out.size));clear hb2 HC HS H1 HB2;go_wp2_with fail
 go_at_call 146;refine(HOO.out _ H2.out).mono ?_;rintro e w3 ⟨rfl,hb3⟩;have H3:=hide' (H2.out.trans (hb3.mono H2.out.size));clear hb3;go_wp2;go_ret2;exact⟨rfl,H3.out⟩
theorem refTell_good2 (ck:Int)(a:Option Addr)(n c:Nat)(ss:List ByteArray)(val cw:ByteArray)(ft:Bool)(cid:Int)(ak:Int)(fa va:Option Addr)(fn fc vn vc:Nat)(bs:List Bool)(vs:List ByteArray)(wd:ByteArray)(id:Int)(w:World)(hs:StrsIn w a n c ss)(hval:val.size≤maxLen)(hf:BoolsIn w fa fn fc bs)(hv:StrsIn w va vn vc vs)(hw:wd.size≤maxLen)(h4:(ck==4)=false)(ha:answerB ck ss val ak bs vs wd=true)(hd:sayB 2 ck n id=true)(out:ByteArray)(HO:∀W,Below w.heap.size w W→Calls Tryz.prog 146 #[ansV ak (.slice fa fn fc) (.slice va vn vc) wd,.int .i64 id] W fun e w'=>e= .returned (.string out)∧Below W.heap.size W w'):Calls Tryz.prog 104 #[.int .i64 2,cmdV6 ck (.slice a n c) val cw ft cid,ansV ak (.slice fa fn fc) (.slice va vn vc) wd,.int .i64 id] w fun e w'=>e= .returned (.tuple #[.string out,.int .i64 0])∧Below w.heap.size w w':=by
 have HB2:=hide' (show∀x y,Below w.heap.size w ((w.alloc x).alloc y)from fun x y=>((Below.refl _ _).alloc (Nat.le_refl _) _).alloc (by simp) _);have HC:Hid (∀x y,Calls Tryz.prog 144 #[cmdV6 ck (.slice a n c) val cw ft cid,ansV ak (.slice fa fn fc) (.slice va vn vc) wd] ((w.alloc x).alloc y) fun e w'=>e= .returned (.bool (answerB ck ss val ak bs vs wd))∧Below ((w.alloc x).alloc y).heap.size ((w.alloc x).alloc y) w'):=fun x y=>refanswer_any ck a n c ss val cw ft cid ak fa va fn fc vn vc bs vs wd _ (hs.later (HB2.out x y)) hval (hf.later (HB2.out x y)) (hv.later (HB2.out x y)) hw
 have HS:Hid (∀W,Calls Tryz.prog 140 #[.int .i64 2,cmdV6 ck (.slice a n c) val cw ft cid,.int .i64 id] W fun e w'=>e= .returned (.bool (sayB 2 ck n id))∧Below W.heap.size W w'):=fun W=>sayable_any 2 ck a n c val cw ft cid id W
 rw[ha]at HC;rw[hd]at HS;have HOO:=hide' HO;clear hs hval hf hv hw ha HO hd;unfold cmdV6 ansV at*;go_enter Tryz.func104,Tryz.ntmps104;go_wp2_with fail
 go_at_call 144;refine(HC.out _ _).mono ?_;rintro e w1 ⟨rfl,hb1⟩;obtain⟨hc1,hf1⟩:=bcell hb1;have hz1:w.heap.size+1<w1.heap.size:=by have:=hb1.size;simp at this;omega
 have hy1:w.heap.size<w1.heap.size:=by omega
 have H1:=hide' ((HB2.out _ _).trans (hb1.mono (by simp;omega)));clear hb1;go_wp2_with fail
 go_at_call 140;refine(HS.out _).mono ?_;rintro e w2 ⟨rfl,hb2⟩;obtain⟨hc2,hf2⟩:=bcell hb2;have hz2:w.heap.size+1<w2.heap.size:=by have:=hb2.size;omega
 have hy2:w.heap.size<w2.heap.size:=by omega
 have H2:=hide' (H1.out.trans (hb2.mono H1.out.size));clear hb2 HC HS H1 HB2;go_wp2_with fail
 go_at_call 146;refine(HOO.out _ H2.out).mono ?_;rintro e w3 ⟨rfl,hb3⟩;have H3:=hide' (H2.out.trans (hb3.mono H2.out.size));clear hb3;go_wp2;go_ret2;exact⟨rfl,H3.out⟩
theorem m_tell1 (w:World):(method 432 160 (.agg #[]) "Tell").run Tryz.prog w= .ok (212,.agg #[]) w:=by kernel_rfl
theorem m_tell2 (w:World):(method 432 161 (.agg #[]) "Tell").run Tryz.prog w= .ok (245,.agg #[]) w:=by kernel_rfl
theorem m_tell3 (w:World):(method 432 162 (.agg #[]) "Tell").run Tryz.prog w= .ok (252,.agg #[]) w:=by kernel_rfl
end Go.Proofs.YtlonjggfnleolaaGreatDoor
