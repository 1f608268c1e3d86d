import Derived.Test.YtlonjggfnleolaaGreatDoorRefL
import Derived.Test.YtlonjggfnleolaaGreatDoorRefH
import Derived.Test.YtlonjggfnleolaaGreatDoorRefM
import Derived.Test.YtlonjggfnleolaaGreatDoorJuQ
import Derived.Deep.AppendSrc
namespace Go.Proofs.YtlonjggfnleolaaGreatDoor
open Go.RowKit
set_option linter.unusedVariables false
set_option maxHeartbeats 4000000
set_option maxRecDepth 20000
variable {h b a l v:Int}{x:Nat×Int}
def RInv (h:Int)(x:Nat×Int)(b a l v:Int):Prop:=
 0≤l∧ -1≤b∧(0≤b→(x.1:Int)=b∧x.2=a-h∧h≤a∧a<4294967296)∧(b<0→(x.1:Int)=l∧x.2=v-h+4294967296∧0≤v∧v<h)
def RSt (h:Int)(first:Prop)(x:Nat×Int)(b a l v:Int):Prop:=
 (first∧b= -1∧l= -1∧x=(0,awayN h 0 0))∨(¬first∧RInv h x b a l v)
theorem away_cases (h:Int)(s p:Nat)(h1:0≤h)(h2:h<4294967296):(h≤num (pt s p).data.toList∧awayN h s p=num (pt s p).data.toList-h)∨(num (pt s p).data.toList<h∧awayN h s p=num (pt s p).data.toList-h+4294967296):=by
 have:=num_bd (pt s p).data.toList;unfold awayN;omega
theorem rstep (s p:Nat)(first:Prop)(h1:0≤h)(h2:h<4294967296)(hf:first→s=0∧p=0)(R:RSt h first x b a l v)(b' a' l' v':Int)(hb:(h≤num (pt s p).data.toList∧(b<0∨num (pt s p).data.toList<a)∧b'=s∧a'=num (pt s p).data.toList)∨(¬(h≤num (pt s p).data.toList∧(b<0∨num (pt s p).data.toList<a))∧b'=b∧a'=a))(hl:((l<0∨num (pt s p).data.toList<v)∧l'=s∧v'=num (pt s p).data.toList)∨(¬(l<0∨num (pt s p).data.toList<v)∧l'=l∧v'=v)):RInv h (stepO h s p x) b' a' l' v':=by
 have hn:=num_bd (pt s p).data.toList;have ha:=away_cases h s p h1 h2;rcases R with⟨f,rfl,rfl,rfl⟩|⟨f,r1,r2,r3,r4⟩
 ·obtain⟨rfl,rfl⟩:=hf f;have hs:stepO h 0 0 (0,awayN h 0 0)=(0,awayN h 0 0):=by unfold stepO;rw[if_neg (by simp)]
  rw[hs];unfold RInv;simp only
  generalize num (pt 0 0).data.toList=n at*;generalize awayN h 0 0=d at*;refine⟨?_,?_,?_,?_⟩<;>omega
 ·unfold RInv stepO;generalize num (pt s p).data.toList=n at*;generalize awayN h s p=d at*;split
  ·simp only
   refine⟨?_,?_,?_,?_⟩<;>omega
  ·refine⟨?_,?_,?_,?_⟩<;>omega
theorem RSt.out {first:Prop}(R:RSt h first x b a l v)(hf:¬first):RInv h x b a l v:=by
 rcases R with⟨f,_⟩|⟨_,r⟩
 ·exact absurd f hf
 ·exact r
theorem refowner_any (S P:Nat)(key:ByteArray)(w:World)(hS:1≤S)(hS4:S≤4)(hP:1≤P)(hP2:P≤16)(hk:key.size≤maxLen):Calls Tryz.prog 138 #[.int .i64 S,.int .i64 P,.string key] w fun e w'=>e= .returned (.int .i64 (ownerN S P key))∧∃q,w'=w.drewN q:=by
 have hb:=num_bd key.data.toList;obtain⟨hb1,hb2⟩:=hb;have HO:Hid (ownerN S P key=(outerO (num key.data.toList) P S).1):=by show _=_;rfl
 go_enter Tryz.func138,Tryz.ntmps138;go_wp2_with fail
 go_at_call 164;refine(hash_any key _ hk).mono ?_;rintro e w' ⟨rfl,rfl⟩;generalize num key.data.toList=fr at*;go_wp2;go_loopw [8,9,10,11,12] (fun sb sa sl sv i wr=>∃k:Nat,k≤S∧i= .int .i64 k∧(∃q,wr=w'.drewN q)∧∃b a l v:Int,sb= .int .i64 b∧sa= .int .i64 a∧sl= .int .i64 l∧sv= .int .i64 v∧RSt fr (k=0) (outerO fr P k) b a l v) (fun _ _ _ _ i _=>S-(intOf i).toNat)
 case atStart=>exact⟨0,Nat.zero_le _,rfl,⟨0,rfl⟩,-1,0,-1,0,rfl,rfl,rfl,rfl,.inl ⟨rfl,rfl,rfl,rfl⟩⟩
 case round=>
  obtain⟨k,hk1,rfl,⟨q,rfl⟩,b,a,l,v,rfl,rfl,rfl,rfl,HR⟩:=hrel;by_cases hlt:k<S
  ·generalize hx:outerO fr P k=x at*;have HX:Hid (outerO fr P k=x):=hx;clear hx;have HR':Hid (RSt fr (k=0∧(0:Nat)=0) (innerO fr k x 0) b a l v):=by
    show RSt fr (k=0∧(0:Nat)=0) x b a l v;simpa using HR
   clear HR;go_wp2;go_loopw [8,9,10,11,13] (fun sb sa sl sv i wr=>∃j:Nat,j≤P∧i= .int .i64 j∧(∃q,wr=w'.drewN q)∧∃b a l v:Int,sb= .int .i64 b∧sa= .int .i64 a∧sl= .int .i64 l∧sv= .int .i64 v∧Hid (RSt fr (k=0∧j=0) (innerO fr k x j) b a l v)) (fun _ _ _ _ i _=>P-(intOf i).toNat)
   case atStart=>exact⟨0,Nat.zero_le _,rfl,⟨_,rfl⟩,b,a,l,v,rfl,rfl,rfl,rfl,(by have h0:=HR'.out;show RSt _ _ _ _ _ _ _;simpa using h0)⟩
   case round=>
    obtain⟨j,hj1,rfl,⟨q2,rfl⟩,b,a,l,v,rfl,rfl,rfl,rfl,HR2⟩:=hrel;by_cases hjt:j<P
    ·have hz:=pt_size k j;have hz2:(pt k j).size≤maxLen:=by unfold maxLen;omega
     have d1:=dec100_size k;have d2:=dec100_size j;have hn:=num_bd (pt k j).data.toList;obtain⟨hn1,hn2⟩:=hn;have HS:=fun b' a' l' v' hb hl=>rstep k j (k=0∧j=0) hb1 hb2 (fun f=>f) HR2.out b' a' l' v' hb hl
     have HS2:Hid (∀b' a' l' v':Int,((fr≤num (pt k j).data.toList∧(b<0∨num (pt k j).data.toList<a)∧b'=k∧a'=num (pt k j).data.toList)∨(¬(fr≤num (pt k j).data.toList∧(b<0∨num (pt k j).data.toList<a))∧b'=b∧a'=a))→(((l<0∨num (pt k j).data.toList<v)∧l'=k∧v'=num (pt k j).data.toList)∨(¬(l<0∨num (pt k j).data.toList<v)∧l'=l∧v'=v))→RInv fr (innerO fr k x (j+1)) b' a' l' v'):=HS;clear HS HR2;go_wp2_with fail
     go_at_call 142;refine(decimal_any k _ (by omega)).mono ?_;rintro e w1 ⟨rfl,q3,rfl⟩;go_wp2_with fail
     go_at_call 142;refine(decimal_any j _ (by omega)).mono ?_;rintro e w1 ⟨rfl,q4,rfl⟩;go_wp2_with fail
     go_at_call 164;refine(hash_any (pt k j) _ hz2).mono ?_;rintro e w1 ⟨rfl,hw1⟩;subst hw1;generalize num (pt k j).data.toList=n at*;go_wp2;all_goals go_roundw
     all_goals first
      |(refine⟨j+1,by omega,by go_num,⟨_,rfl⟩,_,_,_,_,rfl,rfl,rfl,rfl,?_⟩;exact Or.inr ⟨by omega,HS2.out _ _ _ _ (by omega) (by omega)⟩)
      |(simp[intOf];omega)
    ·have hj2:j=P:=by omega
     subst hj2;have hR3:=HR2.out.out (by omega);have HR3:Hid (RInv fr (outerO fr j (k+1)) b a l v):=by
      show RInv _ _ _ _ _ _;simp only[outerO,HX.out]
      exact hR3
     clear hR3 HR2;go_wp2;go_roundw;case rel=>exact⟨k+1,by omega,by go_num,⟨_,rfl⟩,b,a,l,v,rfl,rfl,rfl,rfl,Or.inr ⟨by omega,HR3.out⟩⟩
     case measure=>simp[intOf];omega
  ·have hk2:k=S:=by omega
   subst hk2;obtain⟨r1,r2,r3,r4⟩:=HR.out (by omega);have HH:Hid ((ownerN k P key:Int)=if b<0 then l else b):=by
    show _=_;rw[HO.out];split
    ·exact(r4 (by omega)).1
    ·exact(r3 (by omega)).1
   clear r1 r2 r3 r4 HR;by_cases hbn:b<0
   ·go_wp2;go_ret;exact⟨ret_int (by rw[HH.out,if_pos hbn]),_,rfl⟩
   ·have hbn':¬b<0:=hbn;go_wp2;go_ret;exact⟨ret_int (by rw[HH.out,if_neg (by omega)]),_,rfl⟩
variable {d:Int}{bs:List UInt8}{t:StepR}
structure OkC (d:Int)(c:Cmd):Prop where
 or_:(cmdB c.kind c.keys c.val=true∧c.word=noB∧c.fatal=false∧(d=2→c.keys.length=1))∨(c.kind=4∧c.keys=[]∧c.val=noB∧1≤c.word.size)
 line:c.fatal=true→d≠1
theorem okC_wrong {word:ByteArray}{ft:Bool}(h:1≤word.size)(hl:ft=true→d≠1):OkC d (wrongC word ft):=⟨.inr ⟨rfl,rfl,rfl,h⟩,hl⟩
theorem bytesOf_size (bs:List UInt8)(i k:Nat):(bytesOf bs i k).size≤k:=by
 unfold bytesOf;show(List.take k (List.drop i bs)).toArray.size≤k;simp;omega
theorem bytesOf_none (bs:List UInt8)(i:Nat):bytesOf bs i 0=noB:=by simp[bytesOf,noB]
theorem emptyNo:noB.toList.isEmpty=true:=by decide+kernel
theorem cmdB_setA {s val:ByteArray}(hs:keyB s=true)(hv:val.size≤40):cmdB 2 [s] val=true:=by
 have:(val.size:Int)≤40:=by omega
 simp[cmdB,keysB,withinB,hs,this]
theorem fr_ok (h:frR bs=some t):OkC 2 t.c:=by
 unfold frR at h;split at h
 ·cases h
 ·split at h
  ·cases h;exact okC_wrong (by decide) (fun _=>by decide)
  ·rename_i hh;split at h
   ·cases h
   ·split at h
    ·cases h;exact okC_wrong (by decide) (fun _=>by decide)
    ·rename_i hk;cases h;have hk':keyB (bytesOf bs 7 (byAt bs 2))=true:=by simpa using hk
     have hf:frHead bs=true:=by simpa using hh
     simp only[frHead,Bool.and_eq_true,Bool.or_eq_true,decide_eq_true_eq]at hf;obtain⟨⟨⟨⟨⟨_,h1⟩,h3⟩,_⟩,_⟩,hv⟩:=hf;refine⟨.inl ⟨?_,rfl,rfl,fun _=>rfl⟩,fun h=>(by cases h)⟩;show cmdB (byAt bs 1:Int) [bytesOf bs 7 (byAt bs 2)] (bytesOf bs (7+byAt bs 2) (numAt bs 3))=true;have hs:=bytesOf_size bs (7+byAt bs 2) (numAt bs 3);by_cases h2:byAt bs 1=2
     ·rw[h2];have:numAt bs 3≤40:=by rcases hv with h|h<;>omega
      exact cmdB_setA hk' (by omega)
     ·have h0:numAt bs 3=0:=by rcases hv with h|h<;>omega
      rw[h0,bytesOf_none];rcases(show byAt bs 1=1∨byAt bs 1=3 by omega)with h|h
      ·rw[h];simp[cmdB,keysB,withinB,hk',emptyNo]
      ·rw[h];simp[cmdB,keysB,withinB,hk',emptyNo]
theorem set_ok {frm:Nat}{key:ByteArray}{size:Nat}(hk:keyB key=true)(h:setR bs frm key size=some t):OkC 1 t.c:=by
 unfold setR at h;split at h
 ·cases h;exact okC_wrong (by decide) (fun h=>by cases h)
 ·rename_i h40;split at h
  ·cases h
  ·split at h
   ·cases h;exact okC_wrong (by decide) (fun h=>by cases h)
   ·cases h;have hs:=bytesOf_size bs frm size;exact⟨.inl ⟨cmdB_setA (val:=bytesOf bs frm size) hk (by omega),rfl,rfl,fun h=>(by cases h)⟩,fun h=>(by cases h)⟩
theorem ln_ok (h:lnR bs=some t):OkC 1 t.c:=by
 unfold lnR at h;split at h
 ·unfold lineR at h;split at h
  ·rename_i size hsz;refine set_ok ?_ h;unfold setSizeR at hsz;split at hsz
   ·rename_i hc;exact hc.2.2
   ·cases hsz
  ·split at h
   ·cases h;exact okC_wrong (by decide) (fun h=>by cases h)
   ·rename_i hc;cases h;rw[not_or]at hc;exact⟨.inl ⟨by simpa using hc.2,rfl,rfl,fun h=>(by cases h)⟩,fun h=>(by cases h)⟩
 ·split at h
  ·cases h;exact okC_wrong (by decide) (fun h=>by cases h)
  ·cases h
theorem texts_ok (hd:d≠1)(hd2:d≠2)(ts:List ByteArray)(used:Nat):OkC d (textsR ts used).c:=by
 unfold textsR;simp only
 generalize (if kindB (ts.getD 0 noB)=2 then(if(ts.drop 1).length=2 then(ts.drop 1).take 1 else [])else ts.drop 1)=keys;generalize (if kindB (ts.getD 0 noB)=2∧(ts.drop 1).length=2 then(ts.drop 1).getD 1 noB else noB)=val;generalize kindB (ts.getD 0 noB)=k;cases hc:cmdB k keys val with
 |true=>rw[if_pos rfl];exact⟨.inl ⟨hc,rfl,rfl,fun h=>absurd h hd2⟩,fun h=>(by cases h)⟩
 |false=>rw[if_neg (by decide)];exact okC_wrong (by decide) (fun _=>hd)
theorem ls_ok (hd:d≠1)(hd2:d≠2)(h:lsR bs=some t):OkC d t.c:=by
 unfold lsR at h;simp only at h;split at h
 ·cases h;exact okC_wrong (by decide) (fun _=>hd)
 ·split at h
  ·cases h
  ·cases h;exact texts_ok hd hd2 _ _
theorem read_ok (h:readR d bs=some t):OkC d t.c:=by
 unfold readR at h;split at h
 ·rename_i h1;subst h1;exact ln_ok h
 ·split at h
  ·rename_i h2;subst h2;exact fr_ok h
  ·rename_i h1 h2;exact ls_ok h1 h2 h
set_option maxHeartbeats 2000000
set_option maxRecDepth 20000
variable {w:World}{Y:Nat}{d:Int}{s:St}
def refO (d:Int)(s:St):Obj:= .cells #[.int .i64 d,.string (mkB s.held),.bool s.pass,.bool s.closed] 195 (0,0)
structure RefAt (w:World)(Y:Nat)(d:Int)(s:St):Prop where
 at_:w.heap[Y]?=some (refO d s)
 ok:s.ok
theorem refCells (h:w.heap[Y]?=some (refO d s)):
 w.cell? ⟨Y,0,none⟩=some (.int .i64 d)∧w.cell? ⟨Y,1,none⟩=some (.string (mkB s.held))∧w.cell? ⟨Y,2,none⟩=some (.bool s.pass)∧w.cell? ⟨Y,3,none⟩=some (.bool s.closed)∧(∀j,w.frozen? ⟨Y,j,none⟩=false):=
 ⟨blkCell h 0,blkCell h 1,blkCell h 2,blkCell h 3,blkFree h⟩
theorem mkB_app (l:List UInt8)(p:ByteArray):mkB l++p=mkB (l++p.data.toList):=by
 apply ByteArray.ext;rw[ByteArray.data_append];simp[mkB]
theorem mkB_nil:mkB []=⟨#[]⟩:=rfl
theorem mkB_size (l:List UInt8):(mkB l).size=l.length:=by show l.toArray.size=_;simp
theorem extract_drop (s:ByteArray)(f:Nat):s.extract f s.size=mkB (s.data.toList.drop f):=by
 rw[extract_mkB,List.take_of_length_le (by simp)]
theorem refO_set (h:w.heap[Y]?=some (refO d s))(l:List UInt8):(w.setCell ⟨Y,1,none⟩ (.string (mkB l))).heap[Y]?=some (refO d ⟨l,s.pass,s.closed⟩):=(blkSet (i:=1) h _).trans rfl
theorem refO_pass (h:w.heap[Y]?=some (refO d s))(p:Bool):(w.setCell ⟨Y,2,none⟩ (.bool p)).heap[Y]?=some (refO d ⟨s.held,p,s.closed⟩):=(blkSet (i:=2) h _).trans rfl
theorem refpush_plain (Y:Nat)(d:Int)(s:St)(piece:ByteArray)(w:World)(hY:w.heap[Y]?=some (refO d s))(hps:s.pass=false)(hp:s.held.length+piece.size≤1000000000000):Calls Tryz.prog 148 #[.pointer (some ⟨Y,0,none⟩),.string piece] w fun e w'=>e= .returned (.tuple #[])∧w'.heap[Y]?=some (refO d (takeS s piece.data.toList))∧Turn Y w w':=by
 obtain⟨held,ps,cl⟩:=s;simp only at hps;subst hps;obtain⟨c0,c1,c2,c3,cf⟩:=refCells hY;have hlt:=blkLt hY;simp only at c0 c1 c2 c3 hp;have HY:=hide' hY;have hms:=mkB_size held;clear hY;cases cl with
 |true=>
  have HT:Hid (takeS ⟨held,false,true⟩ piece.data.toList=⟨held,false,true⟩):=(show _=_ from rfl)
  generalize mkB held=H at*;go_enter Tryz.func148,Tryz.ntmps148;go_wp2;go_loop [4] (fun i=>i= .int .i64 0) (fun _=>0)
  case atStart=>rfl
  case round=>
   subst hrel;go_wp2;go_end0;exact⟨rfl,by rw[HT.out];exact HY.out,Turn.refl _ _⟩
 |false=>
  have HT:Hid (takeS ⟨held,false,false⟩ piece.data.toList=⟨held++piece.data.toList,false,false⟩):=(show _=_ from rfl)
  have hX:piece.extract 0 piece.size=piece:=by rw[extract_drop];simp[mkB]
  have HM:=hide' (mkB_app held piece);have HX:=hide' hX;have HB:Hid (∀v:List UInt8,Turn Y w (w.setCell ⟨Y,1,none⟩ (.string (mkB v)))∧(w.setCell ⟨Y,1,none⟩ (.string (mkB v))).heap[Y]?=some (refO d ⟨v,false,false⟩)):=fun v=>⟨(Turn.refl Y w).setCell 1 _,refO_set HY.out v⟩
  have hsz2:¬9223372036854775807<(mkB held).size+(piece.extract 0 piece.size).size:=by rw[hX];omega
  have hsz3:¬9223372036854775807<(mkB held).size+piece.size:=by omega
  clear hX hms;go_enter Tryz.func148,Tryz.ntmps148;go_wp2;go_loop [4] (fun i=>i= .int .i64 0) (fun _=>0)
  case atStart=>rfl
  case round=>
   subst hrel;go_wp2_with fail
   go_big_region
   all_goals go_wp2
   all_goals go_end0
   refine⟨rfl,?_,((Turn.refl Y w).setCell 1 _).drew⟩;rw[HT.out,HM.out];exact(HB.out _).2
theorem passL_none {l:List UInt8}(h:¬0≤Go.Lib.indexByte l 10):passL l=([],true):=by unfold passL;rw[if_neg h]
theorem passL_at {s:ByteArray}{k:Nat}(h:k<s.size)(h10:s[k]=10)(hn:¬0≤Go.Lib.indexByte (s.data.toList.take k) 10):passL s.data.toList=(s.data.toList.drop (k+1),false):=by
 have e:=ib_at h h10 hn;unfold passL;rw[e,if_pos (by omega)];simp
theorem refpush_pass (Y:Nat)(d:Int)(piece:ByteArray)(w:World)(hY:w.heap[Y]?=some (refO d ⟨[],true,false⟩))(hp:piece.size≤1000000000000):Calls Tryz.prog 148 #[.pointer (some ⟨Y,0,none⟩),.string piece] w fun e w'=>e= .returned (.tuple #[])∧w'.heap[Y]?=some (refO d (takeS ⟨[],true,false⟩ piece.data.toList))∧Turn Y w w':=by
 have HT:Hid (takeS ⟨[],true,false⟩ piece.data.toList=⟨(passL piece.data.toList).1,(passL piece.data.toList).2,false⟩):=(show _=_ from rfl)
 generalize takeS ⟨[],true,false⟩ piece.data.toList=TT at*;have HY:=hide' hY;have hlt:=blkLt hY;clear hY;go_enter Tryz.func148,Tryz.ntmps148;go_wp2;go_loopw [4] (fun i wr=>∃(k:Nat) (sk:Bool),i= .int .i64 (k:Int)∧k≤piece.size∧Hid (wr.heap[Y]?=some (refO d ⟨[],sk,false⟩)∧Turn Y w wr)∧Hid ((sk=true∧¬0≤Go.Lib.indexByte (piece.data.toList.take k) 10)∨(sk=false∧passL piece.data.toList=(piece.data.toList.drop k,false)))) (fun i _=>piece.size-(intOf i).toNat)
 case atStart=>exact⟨0,true,rfl,Nat.zero_le _,⟨HY.out,Turn.refl _ _⟩,.inl ⟨rfl,by rw[List.take_zero,ib_nil];decide⟩⟩
 case round=>
  obtain⟨k,sk,rfl,hk,HW,HS⟩:=hrel;obtain⟨c0,c1,c2,c3,cf⟩:=refCells HW.out.1;simp only at c0 c1 c2 c3;have hlw:=blkLt HW.out.1;cases sk with
  |true=>
   have hno:¬0≤Go.Lib.indexByte (piece.data.toList.take k) 10:=by
    rcases HS.out with⟨_,h⟩|⟨h,_⟩
    ·exact h
    ·cases h
   have HNo:=hide' hno;clear hno HS;by_cases hlt2:k<piece.size
   ·by_cases h10:piece[k]=10
    ·have hb10:((piece[k].toNat:Int) != 10)=false:=by rw[h10];rfl
     have HP:=hide' (passL_at hlt2 h10 HNo.out);go_wp2;go_roundw;case rel=>exact⟨k+1,false,by go_num,by omega,⟨refO_pass HW.out.1 false,HW.out.2.setCell 2 _⟩,.inr ⟨rfl,HP.out⟩⟩
     case measure=>simp[intOf];omega
    ·have hb10:((piece[k].toNat:Int)==10)=false:=u8_ne h10;have hb10':((piece[k].toNat:Int) != 10)=true:=by simp only[bne,hb10,Bool.not_false]
     have HN2:=hide' (ib_no hlt2 h10 HNo.out);go_wp2;go_roundw;case rel=>exact⟨k+1,true,by go_num,by omega,⟨refO_pass HW.out.1 true,HW.out.2.setCell 2 _⟩,.inl ⟨rfl,HN2.out⟩⟩
     case measure=>simp[intOf];omega
   ·have hk2:k=piece.size:=by omega
    subst hk2;have HP:Hid (passL piece.data.toList=([],true)):=by
     show _=_;have h:=HNo.out;rw[List.take_of_length_le (by simp)]at h;exact passL_none h
    have hX:piece.extract piece.size piece.size=⟨#[]⟩:=by rw[extract_drop,List.drop_eq_nil_of_le (by simp)];rfl
    have HX:=hide' hX;have hmB:mkB []=⟨#[]⟩:=rfl;rw[hmB]at c1;have hsz1:¬9223372036854775807<(⟨#[]⟩:ByteArray).size+(piece.extract piece.size piece.size).size:=by rw[hX];decide
    clear hmB;go_wp2_with fail
    go_big_region
    all_goals go_wp2
    all_goals go_end0
    refine⟨rfl,?_,(HW.out.2.setCell 1 _).drew⟩;rw[HT.out,HP.out];exact refO_set HW.out.1 []
  |false=>
   have hpl:passL piece.data.toList=(piece.data.toList.drop k,false):=by
    rcases HS.out with⟨h,_⟩|⟨_,h⟩
    ·cases h
    ·exact h
   have HP:=hide' hpl;clear hpl HS;have hmB:mkB []=⟨#[]⟩:=rfl;rw[hmB]at c1;have hX:=extract_drop piece k;have HX:=hide' hX;have hi:(k:Int)≤(piece.size:Int):=by omega
   have hsz1:¬9223372036854775807<(⟨#[]⟩:ByteArray).size+(piece.extract k piece.size).size:=by rw[ByteArray.size_extract];show¬_<0+_;omega
   clear hmB hX;go_wp2_with fail
   go_big_region
   all_goals go_wp2
   all_goals go_end0
   have e1:(⟨#[]⟩:ByteArray)++piece.extract k piece.size=mkB (piece.data.toList.drop k):=by
    rw[HX.out];have:=mkB_app [] (mkB (piece.data.toList.drop k));rw[mkB_nil]at this;rw[this];simp[mkB]
   refine⟨rfl,?_,(HW.out.2.setCell 1 _).drew⟩;rw[HT.out,HP.out,e1];exact refO_set HW.out.1 _
theorem refpush_any (Y:Nat)(d:Int)(s:St)(piece:ByteArray)(w:World)(R:RefAt w Y d s)(hp:s.held.length+piece.size≤1000000000000):Calls Tryz.prog 148 #[.pointer (some ⟨Y,0,none⟩),.string piece] w fun e w'=>e= .returned (.tuple #[])∧RefAt w' Y d (takeS s piece.data.toList)∧Turn Y w w':=by
 obtain⟨hY,hok⟩:=R;have hok2:=takeS_ok piece.data.toList hok;cases hps:s.pass with
 |false=>exact(refpush_plain Y d s piece w hY hps hp).mono fun e w' ⟨h1,h2,h3⟩=>⟨h1,⟨h2,hok2⟩,h3⟩
 |true=>
  have hh:=hok.pass hps;have hc:s.closed=false:=by
   cases hcc:s.closed with
   |false=>rfl
   |true=>have:=(hok.closed hcc).2;rw[hps]at this;cases this
  obtain⟨held,ps,cl⟩:=s;simp only at hh hc hps;subst hh;subst hc;subst hps;exact(refpush_pass Y d piece w hY (by simp at hp;exact hp)).mono fun e w' ⟨h1,h2,h3⟩=>⟨h1,⟨h2,hok2⟩,h3⟩
set_option maxHeartbeats 4000000
set_option maxRecDepth 20000
theorem RefOut.none_eq {w w':World}{e:Ending}(h:RefOut w w' none e):e= .returned (.tuple #[zCmdV,.int .i64 0]):=h
theorem refwhole_of (N:Nat)(Y:Nat)(d:Int)(s:ByteArray)(RES:Option StepR)(w:World)(hY:w.cell? ⟨Y,0,none⟩=some (.int .i64 d))(hYl:Y<w.heap.size)(hd:(d=1∧N=171)∨(d=2∧N=172)∨(d=3∧N=173))(hC:∀W:World,Calls Tryz.prog N #[.string s] W fun r w'=>RefOut W w' RES r∧Below W.heap.size W w'):Calls Tryz.prog 165 #[.pointer (some ⟨Y,0,none⟩),.string s] w fun r w'=>RefOut w w' RES r∧Below w.heap.size w w':=by
 have HC:=hide' hC;clear hC;have HZ:Hid (∀(W:World),Below (w.heap.size+1) (w.alloc (.cells #[.int .i64 0,.slice none 0 0,.string ⟨#[]⟩,.string ⟨#[]⟩,.bool false,.int .i64 0] 36)) W→CCells W w.heap.size 0 (.slice none 0 0) ⟨#[]⟩∧w.heap.size<W.heap.size∧Below w.heap.size w W∧W.heap[w.heap.size]?=some zCmdO):=fun W h=>⟨(zres h).1,(zres h).2.1,(zres h).2.2,(h.block _ (by omega)).trans (blkNew w _)⟩
 rcases hd with⟨rfl,rfl⟩|⟨rfl,rfl⟩|⟨rfl,rfl⟩
 all_goals
  go_enter Tryz.func165,Tryz.ntmps165
  go_wp2_with fail
  first|go_at_call 171|go_at_call 172|go_at_call 173
  refine(HC.out _).mono ?_
  rintro r w2 ⟨hO,hb2⟩
  obtain⟨⟨⟨r0,r1,r2,r3,r4,r5⟩,rf⟩,hz,hB,hR⟩:=HZ.out w2 (by simpa using hb2)
  have HB:=hide' (And.intro hB hR)
  clear hb2 hB hR
  cases RES with
  |none=>
   have hr:=RefOut.none_eq hO;subst hr;clear hO HC HZ;unfold zCmdV;go_wp2;refine bodyPost_ret (v:= .tuple #[zCmdV,.int .i64 0]) (by simp[results,Tryz.results165,go_sem,zCmdV,r0,r1,r2,r3,r4,r5]) rfl ⟨rfl,set6 HB.out.1 (Nat.le_refl _) _ _ _ _ _ _⟩
  |some t=>
   obtain⟨kv,hr,hK⟩:=hO;subst hr;obtain⟨ka,kc,hkv⟩:=hK.form;subst hkv;have HK:Hid (KeysR w2 w.heap.size (.slice ka t.c.keys.length kc) t.c.keys):=hK.other (by simp) (fun _ _ _ _=>rfl);clear hK HC HZ;generalize hhow:(if t.skip=true then(2:Int)else 1)=how at*;have HW:=hide' hhow;clear hhow;unfold cmdVR;go_wp2;refine bodyPost_ret (v:= .tuple #[cmdVR t.c (.slice ka t.c.keys.length kc),.int .i64 how]) (by simp[results,Tryz.results165,go_sem,cmdVR,r0,r1,r2,r3,r4,r5]) rfl ⟨⟨_,by rw[HW.out],HK.out.other (Nat.le_refl _) (fun b Z hZ _=>set6_other (fun e=>by rw[e,HB.out.2]at hZ;cases hZ) _ _ _ _ _ _)⟩,set6 HB.out.1 (Nat.le_refl _) _ _ _ _ _ _⟩
theorem refwhole_any (Y:Nat)(d:Int)(s:ByteArray)(pre:List UInt8)(b:UInt8)(w:World)(hd:d=1∨d=2∨d=3)(hY:w.cell? ⟨Y,0,none⟩=some (.int .i64 d))(hYl:Y<w.heap.size)(hs:s.size≤1000000000000)(hb:s.data.toList=pre++[b])(h0:readR d pre=none):Calls Tryz.prog 165 #[.pointer (some ⟨Y,0,none⟩),.string s] w fun r w'=>RefOut w w' (readR d s.data.toList) r∧Below w.heap.size w w':=by
 unfold readR at h0⊢;rcases hd with rfl|rfl|rfl
 ·rw[if_pos rfl]at h0⊢;exact refwhole_of 171 Y 1 s _ w hY hYl (.inl ⟨rfl,rfl⟩) (fun W=>refline_any s pre b W hs hb h0)
 ·rw[if_neg (by decide),if_pos rfl]at h0⊢;exact refwhole_of 172 Y 2 s _ w hY hYl (.inr (.inl ⟨rfl,rfl⟩)) (fun W=>refframe_any s pre b W hs hb h0)
 ·rw[if_neg (by decide),if_neg (by decide)]at h0⊢;exact refwhole_of 173 Y 3 s _ w hY hYl (.inr (.inr ⟨rfl,rfl⟩)) (fun W=>reflist_any s W hs (by rw[←len_size',hb];simp))
def NextOut (w w':World)(Y:Nat)(d:Int)(s:St)(e:Ending):Prop:=
 match readR d s.held with
 |none=>e= .returned (.tuple #[zCmdV,.bool false])∧RefAt w' Y d s
 |some t=>∃kv,e= .returned (.tuple #[cmdVR t.c kv,.bool true])∧KeysR w' w.heap.size kv t.c.keys∧RefAt w' Y d (afterS s t)
theorem edge_okS {d:Int}{s:St}{n:Nat}{t:StepR}(hn:n<s.held.length)(h0:readR d (s.held.take n)=none)(h:readR d (s.held.take (n+1))=some t):(⟨[],t.skip,t.c.fatal⟩:St).ok:=by
 have e1:s.held.take (n+1)=s.held.take n++[s.held[n]]:=by rw[List.take_add_one,List.getElem?_eq_getElem hn];rfl
 rw[e1]at h;have he:=readR_edge h0 h;refine⟨fun _=>rfl,fun hc=>⟨rfl,?_⟩⟩;rcases he with⟨_,hk⟩|⟨hf,_⟩|⟨hf,_⟩
 ·exact hk
 ·simp only at hc;rw[hf]at hc;cases hc
 ·simp only at hc;rw[hf]at hc;cases hc
theorem mkB_take (l:List UInt8)(k:Nat):(mkB l).extract 0 k=mkB (l.take k):=by rw[extract_mkB];simp[mkB]
theorem mkB_drop (l:List UInt8)(k:Nat):(mkB l).extract k (mkB l).size=mkB (l.drop k):=by rw[extract_drop];simp[mkB]
theorem mkB_list (l:List UInt8):(mkB l).data.toList=l:=by simp[mkB]
set_option maxHeartbeats 8000000
set_option maxRecDepth 20000
variable {w w5:World}{Y:Nat}{d:Int}{kv:Value}
def cmdO (c:Cmd)(kv:Value):Obj:= .cells #[.int .i64 c.kind,kv,.string c.val,.string c.word,.bool c.fatal,.int .i64 c.id] 36 (0,0)
theorem next_push {w2:World}{H:ByteArray}{p:Bool}{c:Cmd}(sk:Bool)(h1:w2.heap[Y]?=some (.cells #[.int .i64 d,.string H,.bool p,.bool false] 195 (0,0)))(h2:w2.heap[w.heap.size]?=some zCmdO)(h3:Below w.heap.size w w2)(h4:KeysR w2 w.heap.size kv c.keys)(hYn:¬Y=w.heap.size)(hT:Turn Y ((((w2.setCell ⟨Y,1,none⟩ (.string ⟨#[]⟩)).setCell ⟨Y,3,none⟩ (.bool c.fatal)).setCell ⟨Y,2,none⟩ (.bool sk)).alloc (.cells #[.int .i64 c.kind,kv,.string c.val,.string c.word,.bool c.fatal,.int .i64 c.id] 36)) w5):w5.heap[w2.heap.size]?=some (cmdO c kv)∧w5.heap[w.heap.size]?=some zCmdO∧KeysR w5 w.heap.size kv c.keys∧Turn Y w w5:=by
 have hl1:=blkLt h1;have hl2:=blkLt h2;have hYn':w.heap.size≠Y:=fun e=>hYn e.symm
 have hsz:((((w2.setCell ⟨Y,1,none⟩ (.string ⟨#[]⟩)).setCell ⟨Y,3,none⟩ (.bool c.fatal)).setCell ⟨Y,2,none⟩ (.bool sk)).heap.size)=w2.heap.size:=by simp
 have hT0:Turn Y w ((((w2.setCell ⟨Y,1,none⟩ (.string ⟨#[]⟩)).setCell ⟨Y,3,none⟩ (.bool c.fatal)).setCell ⟨Y,2,none⟩ (.bool sk)).alloc (.cells #[.int .i64 c.kind,kv,.string c.val,.string c.word,.bool c.fatal,.int .i64 c.id] 36)):=((((Turn.of_below h3).setCell 1 _).setCell 3 _).setCell 2 _).alloc _;have o1:∀(b:Nat) (o:Obj),w2.heap[b]?=some o→b≠Y→((((w2.setCell ⟨Y,1,none⟩ (.string ⟨#[]⟩)).setCell ⟨Y,3,none⟩ (.bool c.fatal)).setCell ⟨Y,2,none⟩ (.bool sk)).alloc (.cells #[.int .i64 c.kind,kv,.string c.val,.string c.word,.bool c.fatal,.int .i64 c.id] 36)).heap[b]?=some o:=fun b o h hb=>hs_alloc (hs_set (hs_set (hs_set h hb) hb) hb) _
 have o2:((((w2.setCell ⟨Y,1,none⟩ (.string ⟨#[]⟩)).setCell ⟨Y,3,none⟩ (.bool c.fatal)).setCell ⟨Y,2,none⟩ (.bool sk)).alloc (.cells #[.int .i64 c.kind,kv,.string c.val,.string c.word,.bool c.fatal,.int .i64 c.id] 36)).heap[w2.heap.size]?=some (cmdO c kv):=hs_new hsz.symm;have hsa:((((w2.setCell ⟨Y,1,none⟩ (.string ⟨#[]⟩)).setCell ⟨Y,3,none⟩ (.bool c.fatal)).setCell ⟨Y,2,none⟩ (.bool sk)).alloc (.cells #[.int .i64 c.kind,kv,.string c.val,.string c.word,.bool c.fatal,.int .i64 c.id] 36)).heap.size=w2.heap.size+1:=by rw[World.size_alloc,hsz]
 generalize ((((w2.setCell ⟨Y,1,none⟩ (.string ⟨#[]⟩)).setCell ⟨Y,3,none⟩ (.bool c.fatal)).setCell ⟨Y,2,none⟩ (.bool sk)).alloc (.cells #[.int .i64 c.kind,kv,.string c.val,.string c.word,.bool c.fatal,.int .i64 c.id] 36))=W3 at*;refine⟨(hT.block _ (by omega) (by omega)).trans o2,(hT.block _ (by omega) hYn').trans (o1 _ _ h2 hYn'),h4.other (Nat.le_refl _) (fun b Z hZ _=>?_),hT0.trans hT⟩;have hbY:b≠Y:=fun e=>by rw[e,h1]at hZ;cases hZ
 have hbl:=blkLt hZ;exact((hT.block b (by omega) hbY).trans (o1 b _ hZ hbY)).trans hZ.symm
theorem next_end {s:St}{ks:List ByteArray}(h1:RefAt w5 Y d s)(h2:KeysR w5 w.heap.size kv ks)(h3:Turn Y w w5)(h4:w5.heap[w.heap.size]?=some zCmdO)(hYn:¬Y=w.heap.size)(a b c e f g:Value):KeysR ((((((w5.setCell ⟨w.heap.size,0,none⟩ a).setCell ⟨w.heap.size,1,none⟩ b).setCell ⟨w.heap.size,2,none⟩ c).setCell ⟨w.heap.size,3,none⟩ e).setCell ⟨w.heap.size,4,none⟩ f).setCell ⟨w.heap.size,5,none⟩ g) w.heap.size kv ks∧RefAt ((((((w5.setCell ⟨w.heap.size,0,none⟩ a).setCell ⟨w.heap.size,1,none⟩ b).setCell ⟨w.heap.size,2,none⟩ c).setCell ⟨w.heap.size,3,none⟩ e).setCell ⟨w.heap.size,4,none⟩ f).setCell ⟨w.heap.size,5,none⟩ g) Y d s∧Turn Y w ((((((w5.setCell ⟨w.heap.size,0,none⟩ a).setCell ⟨w.heap.size,1,none⟩ b).setCell ⟨w.heap.size,2,none⟩ c).setCell ⟨w.heap.size,3,none⟩ e).setCell ⟨w.heap.size,4,none⟩ f).setCell ⟨w.heap.size,5,none⟩ g):=by
 refine⟨h2.other (Nat.le_refl _) (fun b Z hZ _=>set6_other (fun e=>by rw[e,h4]at hZ;cases hZ) _ _ _ _ _ _),⟨(set6_other hYn _ _ _ _ _ _).trans h1.at_,h1.ok⟩,?_⟩;have hB:Below w.heap.size w5 ((((((w5.setCell ⟨w.heap.size,0,none⟩ a).setCell ⟨w.heap.size,1,none⟩ b).setCell ⟨w.heap.size,2,none⟩ c).setCell ⟨w.heap.size,3,none⟩ e).setCell ⟨w.heap.size,4,none⟩ f).setCell ⟨w.heap.size,5,none⟩ g):=
  ((((((Below.refl _ _).setCell (p:=⟨w.heap.size,0,none⟩) (Nat.le_refl _) _).setCell (p:=⟨w.heap.size,1,none⟩) (Nat.le_refl _) _).setCell (p:=⟨w.heap.size,2,none⟩) (Nat.le_refl _) _).setCell (p:=⟨w.heap.size,3,none⟩) (Nat.le_refl _) _).setCell (p:=⟨w.heap.size,4,none⟩) (Nat.le_refl _) _).setCell (p:=⟨w.heap.size,5,none⟩) (Nat.le_refl _) _
 exact⟨hB.os.trans h3.os,hB.tape.trans h3.tape,hB.output.trans h3.output,Nat.le_trans h3.size hB.size,fun k hk hn=>(hB.block k hk).trans (h3.block k hk hn)⟩
theorem refnext_any (Y:Nat)(d:Int)(s:St)(w:World)(hd:d=1∨d=2∨d=3)(R:RefAt w Y d s)(hs:s.held.length≤1000000000000):Calls Tryz.prog 149 #[.pointer (some ⟨Y,0,none⟩)] w fun e w'=>NextOut w w' Y d s e∧Turn Y w w':=by
 have hok:=R.ok;have hY:=R.at_;obtain⟨c0,c1,c2,c3,cf⟩:=refCells hY;have hlt:=blkLt hY;have HR:=hide' R;have hYn:¬Y=w.heap.size:=by omega
 clear R;cases hcl:s.closed with
 |true=>
  have hh:=(hok.closed hcl).1;have HN:Hid (∀w' e,e=Ending.returned (.tuple #[zCmdV,.bool false])→RefAt w' Y d s→NextOut w w' Y d s e):=fun w' e h1 h2=>by unfold NextOut;rw[hh,readR_nil];exact⟨h1,h2⟩
  rw[hcl]at c3;clear hcl hh hY hok;go_enter Tryz.func149,Tryz.ntmps149;go_wp2;refine bodyPost_ret (v:= .tuple #[zCmdV,.bool false]) (by simp[results,Tryz.results149,go_sem,zCmdV]) rfl ⟨HN.out _ _ rfl ⟨?_,HR.out.ok⟩,?_⟩
  ·repeat(first|with_reducible exact HR.out.at_|with_reducible refine hs_set ?_ (by simp;try omega)|with_reducible refine hs_drew ?_|with_reducible refine hs_alloc ?_ _)
  ·refine .of_below ?_;repeat(first|with_reducible exact Below.refl _ _|with_reducible refine Below.drew ?_|with_reducible refine Below.alloc ?_ (by simp;try omega) _|with_reducible refine Below.setCell ?_ (by simp;try omega) _)
 |false=>
  rw[hcl]at c3;have hms:=mkB_size s.held;have HOK:=hide' hok;have HCl:=hide' hcl;clear hcl hok hY;generalize hL:s.held.length=L at*;have HLn:=hide' hL;have HH:=hide' (show∀k,(mkB s.held).extract 0 k=mkB (s.held.take k)from fun k=>mkB_take _ _);have HD:=hide' (show∀k,(mkB s.held).extract k (mkB s.held).size=mkB (s.held.drop k)from fun k=>mkB_drop _ _);have HY0:Hid (w.heap[Y]?=some (.cells #[.int .i64 d,.string (mkB s.held),.bool s.pass,.bool false] 195 (0,0))):=by have:=HR.out.at_;unfold refO at this;rw[HCl.out]at this;exact this
  generalize mkB s.held=H at*;have HHL:=hide' hms;clear hL;go_enter Tryz.func149,Tryz.ntmps149;go_wp2;go_loopw [4] (fun n wr=>∃k:Nat,n= .int .i64 ((k:Int)+1)∧k≤L∧Hid (readR d (s.held.take k)=none)∧Hid (wr.heap[Y]?=some (.cells #[.int .i64 d,.string H,.bool s.pass,.bool false] 195 (0,0))∧wr.heap[w.heap.size]?=some zCmdO∧Below w.heap.size w wr)) (fun n _=>L+1-(intOf n).toNat)
  case atStart=>
   refine⟨0,rfl,Nat.zero_le _,?_,?_⟩
   ·show _=_;rw[List.take_zero,readR_nil]
   ·exact⟨hs_alloc HY0.out _,blkNew w _,(Below.refl _ _).alloc (Nat.le_refl _) _⟩
  case round=>
   clear c0 c1 c2 c3 cf;obtain⟨k,rfl,hk,HN,HW⟩:=hrel;have c0:=blkCell HW.out.1 0;have c1:=blkCell HW.out.1 1;have c2:=blkCell HW.out.1 2;have c3:=blkCell HW.out.1 3;have cf:=blkFree HW.out.1;simp at c0 c1 c2 c3;obtain⟨⟨r0,r1,r2,r3,r4,r5⟩,rf⟩:=ccells_of HW.out.2.1;have hYl:=blkLt HW.out.1;have hRl:=blkLt HW.out.2.1;by_cases hkl:k<L
   ·have hkh:k<s.held.length:=by rw[HLn.out];exact hkl
    have i1:(k:Int)+1≤(H.size:Int):=by omega
    have i2:(0:Int)≤(k:Int)+1:=by omega
    have i3:(k:Int)+1≤(L:Int):=by omega
    have htk:s.held.take (k+1)=s.held.take k++[s.held[k]]:=by rw[List.take_add_one,List.getElem?_eq_getElem hkh];rfl
    have HWh:Hid (∀W:World,W.cell? ⟨Y,0,none⟩=some (.int .i64 d)→Y<W.heap.size→Calls Tryz.prog 165 #[.pointer (some ⟨Y,0,none⟩),.string (H.extract 0 (k+1))] W fun r w'=>RefOut W w' (readR d (s.held.take (k+1))) r∧Below W.heap.size W w'):=fun W h1 h2=>by
     rw[HH.out];have:=refwhole_any Y d (mkB (s.held.take (k+1))) (s.held.take k) s.held[k] W hd h1 h2 (by rw[mkB_size,List.length_take];omega) (by rw[mkB_list,htk]) HN.out;rw[mkB_list]at this;exact this
    clear htk;cases hr:readR d (s.held.take (k+1))with
    |none=>
     rw[hr]at HWh;have HN2:=hide' hr;clear hr;go_wp2_with fail
     go_at_call 165;refine(HWh.out _ (by first|exact c0|(rw[Below.cell_alloc' (by omega)];exact c0)) (by first|exact hYl|(simp;omega))).mono ?_;rintro r w2 ⟨hO,hb2⟩;have hre:=RefOut.none_eq hO;subst hre;have HW2:Hid (w2.heap[Y]?=some (.cells #[.int .i64 d,.string H,.bool s.pass,.bool false] 195 (0,0))∧w2.heap[w.heap.size]?=some zCmdO∧Below w.heap.size w w2):=⟨(hb2.block _ hYl).trans HW.out.1,(hb2.block _ hRl).trans HW.out.2.1,HW.out.2.2.trans (hb2.mono HW.out.2.2.size)⟩
     clear hO hb2;unfold zCmdV;go_wp2;go_roundw;case rel=>exact⟨k+1,by go_num,by omega,HN2,hs_alloc HW2.out.1 _,hs_alloc HW2.out.2.1 _,HW2.out.2.2.alloc HW2.out.2.2.size _⟩
     case measure=>simp[intOf];omega
    |some t=>
     rw[hr]at HWh;obtain⟨hra,hae⟩:=after_edge HOK.out hkh HN.out hr;have hsok:=edge_okS hkh HN.out hr;have HNx:Hid (∀w' e,(∃kv,e=Ending.returned (.tuple #[cmdVR t.c kv,.bool true])∧KeysR w' w.heap.size kv t.c.keys∧RefAt w' Y d (edgeS t (s.held.drop (k+1))))→NextOut w w' Y d s e):=fun w' e h=>by unfold NextOut;rw[hra];simp only;rw[hae];exact h
     have HPu:Hid (∀W:World,W.heap[Y]?=some (refO d ⟨[],t.skip,t.c.fatal⟩)→Calls Tryz.prog 148 #[.pointer (some ⟨Y,0,none⟩),.string (H.extract (k+1) L)] W fun e w'=>e= .returned (.tuple #[])∧RefAt w' Y d (edgeS t (s.held.drop (k+1)))∧Turn Y W w'):=fun W h=>by
      rw[←HHL.out,HD.out];have hlL:=HLn.out;have:=refpush_any Y d ⟨[],t.skip,t.c.fatal⟩ (mkB (s.held.drop (k+1))) W ⟨h,hsok⟩ (by rw[mkB_size,List.length_drop];simp;omega);rw[mkB_list]at this;exact this
     clear hr hra hae hsok;go_wp2_with fail
     go_at_call 165;refine(HWh.out _ (by first|exact c0|(rw[Below.cell_alloc' (by omega)];exact c0)) (by first|exact hYl|(simp;omega))).mono ?_;rintro r w2 ⟨⟨kv,hre,hK⟩,hb2⟩;subst hre;obtain⟨ka,kc,hkv⟩:=hK.form;subst hkv;have hK2:KeysR w2 w.heap.size (.slice ka t.c.keys.length kc) t.c.keys:=hK.other HW.out.2.2.size (fun _ _ _ _=>rfl);have hY2:=(hb2.block _ hYl).trans HW.out.1;have hR2:=(hb2.block _ hRl).trans HW.out.2.1;have HW2:Hid (w2.heap[Y]?=some (.cells #[.int .i64 d,.string H,.bool s.pass,.bool false] 195 (0,0))∧w2.heap[w.heap.size]?=some zCmdO∧Below w.heap.size w w2∧KeysR w2 w.heap.size (.slice ka t.c.keys.length kc) t.c.keys):=⟨hY2,hR2,HW.out.2.2.trans (hb2.mono HW.out.2.2.size),hK2⟩
     clear c0 c1 c2 c3 cf r0 r1 r2 r3 r4 r5 rf;have c0:=blkCell hY2 0;have c1:=blkCell hY2 1;have c2:=blkCell hY2 2;have c3:=blkCell hY2 3;have cf:=blkFree hY2;simp at c0 c1 c2 c3;have hYl2:=blkLt hY2;have hRl2:=blkLt hR2;clear hK hb2 hK2 hY2 hR2 HWh HW HN;unfold cmdVR;have HPw:Hid (∀(sk:Bool),t.skip=sk→∀o,((((w2.setCell ⟨Y,1,none⟩ (.string ⟨#[]⟩)).setCell ⟨Y,3,none⟩ (.bool t.c.fatal)).setCell ⟨Y,2,none⟩ (.bool sk)).alloc o).heap[Y]?=some (refO d ⟨[],t.skip,t.c.fatal⟩)):=fun sk hsk o=>by
      rw[hsk];exact(hs_alloc (blkSet (i:=2) (blkSet (i:=3) (blkSet (i:=1) HW2.out.1 _) _) _) o).trans rfl
     have hY3:¬Y=w2.heap.size:=by omega
     cases hsk:t.skip with
     |true=>
      have HSk:=hide' hsk;clear hsk;dsimp only
      rw[if_pos rfl];go_wp2_with fail
      go_at_call 148;refine(HPu.out _ (HPw.out true HSk.out _)).mono ?_;rintro e w5 ⟨rfl,hRA,hT⟩;obtain⟨hC5,hR5,hK5,hTu⟩:=next_push true HW2.out.1 HW2.out.2.1 HW2.out.2.2.1 HW2.out.2.2.2 hYn hT;have HF:=hide' (And.intro hRA (And.intro hK5 (And.intro hTu hR5)));have q0:=blkCell hC5 0;have q1:=blkCell hC5 1;have q2:=blkCell hC5 2;have q3:=blkCell hC5 3;have q4:=blkCell hC5 4;have q5:=blkCell hC5 5;simp at q0 q1 q2 q3 q4 q5;obtain⟨⟨r0,r1,r2,r3,r4,r5⟩,rf⟩:=ccells_of hR5;have hRl5:=blkLt hR5;have hCl5:=blkLt hC5;have hnC:¬w.heap.size=w2.heap.size:=by omega
      clear hRA hT hC5 hR5 hK5 hTu c0 c1 c2 c3 cf;go_wp2;refine bodyPost_ret (v:= .tuple #[cmdVR t.c (.slice ka t.c.keys.length kc),.bool true]) (by simp[results,Tryz.results149,go_sem,cmdVR,r0,r1,r2,r3,r4,r5]) rfl ⟨HNx.out _ _ ⟨_,rfl,(next_end HF.out.1 HF.out.2.1 HF.out.2.2.1 HF.out.2.2.2 hYn _ _ _ _ _ _).1,(next_end HF.out.1 HF.out.2.1 HF.out.2.2.1 HF.out.2.2.2 hYn _ _ _ _ _ _).2.1⟩,(next_end HF.out.1 HF.out.2.1 HF.out.2.2.1 HF.out.2.2.2 hYn _ _ _ _ _ _).2.2⟩
     |false=>
      have HSk:=hide' hsk;clear hsk;dsimp only
      rw[if_neg (by simp)];go_wp2_with fail
      go_at_call 148;refine(HPu.out _ (HPw.out false HSk.out _)).mono ?_;rintro e w5 ⟨rfl,hRA,hT⟩;obtain⟨hC5,hR5,hK5,hTu⟩:=next_push false HW2.out.1 HW2.out.2.1 HW2.out.2.2.1 HW2.out.2.2.2 hYn hT;have HF:=hide' (And.intro hRA (And.intro hK5 (And.intro hTu hR5)));have q0:=blkCell hC5 0;have q1:=blkCell hC5 1;have q2:=blkCell hC5 2;have q3:=blkCell hC5 3;have q4:=blkCell hC5 4;have q5:=blkCell hC5 5;simp at q0 q1 q2 q3 q4 q5;obtain⟨⟨r0,r1,r2,r3,r4,r5⟩,rf⟩:=ccells_of hR5;have hRl5:=blkLt hR5;have hCl5:=blkLt hC5;have hnC:¬w.heap.size=w2.heap.size:=by omega
      clear hRA hT hC5 hR5 hK5 hTu c0 c1 c2 c3 cf;go_wp2;refine bodyPost_ret (v:= .tuple #[cmdVR t.c (.slice ka t.c.keys.length kc),.bool true]) (by simp[results,Tryz.results149,go_sem,cmdVR,r0,r1,r2,r3,r4,r5]) rfl ⟨HNx.out _ _ ⟨_,rfl,(next_end HF.out.1 HF.out.2.1 HF.out.2.2.1 HF.out.2.2.2 hYn _ _ _ _ _ _).1,(next_end HF.out.1 HF.out.2.1 HF.out.2.2.1 HF.out.2.2.2 hYn _ _ _ _ _ _).2.1⟩,(next_end HF.out.1 HF.out.2.1 HF.out.2.2.1 HF.out.2.2.2 hYn _ _ _ _ _ _).2.2⟩
   ·have hkk:k=L:=by omega
    subst hkk;have hnr:readR d s.held=none:=by
     have:=HN.out;rw[List.take_of_length_le (by rw[HLn.out];exact Nat.le_refl _)]at this;exact this
    have HNx:Hid (∀w' e,e=Ending.returned (.tuple #[zCmdV,.bool false])→RefAt w' Y d s→NextOut w w' Y d s e):=fun w' e h1 h2=>by unfold NextOut;rw[hnr];exact⟨h1,h2⟩
    clear hnr;go_wp2;refine bodyPost_ret (v:= .tuple #[zCmdV,.bool false]) (by simp[results,Tryz.results149,go_sem,zCmdV,r0,r1,r2,r3,r4,r5]) rfl ⟨HNx.out _ _ rfl ⟨?_,HR.out.ok⟩,?_⟩
    ·refine(set6_other hYn _ _ _ _ _ _).trans (HW.out.1.trans ?_);rw[←HY0.out];exact HR.out.at_
    ·exact .of_below (set6 HW.out.2.2 (Nat.le_refl _) _ _ _ _ _ _)
end Go.Proofs.YtlonjggfnleolaaGreatDoor
namespace Go.Proofs.YtlonjggfnleolaaGreatDoor
open Go.RowKit Go.Shelf Go.Conc
set_option linter.unusedVariables false
set_option maxHeartbeats 1000000
set_option maxRecDepth 100000
variable {d:Int}{bs:List UInt8}{t:StepR}
theorem wrongB_size {c:Cmd}(h:CmdOk c)(hk:c.keys=[]):(wrongB d c).data.toList.length≤1000:=by
 have h5:=(h.wrong hk).2;rw[Array.length_toList];show(wrongB d c).size≤1000;unfold wrongB;split
 ·unfold liTellB;rw[if_neg (by decide),if_neg (by decide),if_neg (by decide),ByteArray.size_append,ByteArray.size_append];show 5+c.word.size+1≤1000;omega
 ·split
  ·unfold headB;rw[strOfNums_size];decide
  ·unfold lsTellB;rw[if_neg (by decide),if_neg (by decide),if_neg (by decide),ByteArray.size_append,ByteArray.size_append];show 1+c.word.size+1≤1000;omega
theorem cmdB_in {k:Int}{ks:List ByteArray}{val:ByteArray}(h:cmdB k ks val=true):(k=1∨k=2∨k=3)∧1≤ks.length∧ks.length≤4∧(∀x∈ks,x.size≤8)∧val.size≤40:=by
 have hkeys:∀(m:Int),m≤4→keysB ks m=true→1≤ks.length∧ks.length≤4∧∀x∈ks,x.size≤8:=fun m hm hk=>by
  unfold keysB withinB at hk;simp only[Bool.and_eq_true,decide_eq_true_eq,List.all_eq_true]at hk;refine⟨by omega,by omega,fun x hx=>?_⟩;have:=hk.2 x hx;unfold keyB withinB at this;simp only[Bool.and_eq_true,decide_eq_true_eq]at this;omega
 have hem:val.toList.isEmpty=true→val.size≤40:=fun he=>by
  rw[emptyB' he];decide
 unfold cmdB at h;split at h
 ·simp only[Bool.and_eq_true]at h;obtain⟨a,b,c⟩:=hkeys 4 (by omega) h.1;exact⟨.inl ‹_›,a,b,c,hem h.2⟩
 ·split at h
  ·simp only[Bool.and_eq_true,decide_eq_true_eq]at h;obtain⟨a,b,c⟩:=hkeys 1 (by omega) h.1;exact⟨.inr (.inl ‹_›),a,b,c,by omega⟩
  ·split at h
   ·simp only[Bool.and_eq_true]at h;obtain⟨a,b,c⟩:=hkeys 1 (by omega) h.1;exact⟨.inr (.inr ‹_›),a,b,c,hem h.2⟩
   ·cases h
theorem texts_word (ts:List ByteArray)(used:Nat):(textsR ts used).c.word.size≤8∧0≤(textsR ts used).c.id∧(textsR ts used).c.id≤65535:=by
 unfold textsR;simp only
 generalize (if kindB (ts.getD 0 noB)=2 then(if(ts.drop 1).length=2 then(ts.drop 1).take 1 else [])else ts.drop 1)=keys;generalize (if kindB (ts.getD 0 noB)=2∧(ts.drop 1).length=2 then(ts.drop 1).getD 1 noB else noB)=val;generalize kindB (ts.getD 0 noB)=k;cases hc:cmdB k keys val with
 |true=>rw[if_pos rfl];exact⟨(by show noB.size≤8;decide),Int.le_refl _,(by show(0:Int)≤65535;omega)⟩
 |false=>rw[if_neg (by decide)];exact⟨(by show dataB.size≤8;decide),Int.le_refl _,(by show(0:Int)≤65535;omega)⟩
theorem read_word (h:readR d bs=some t):t.c.word.size≤8∧0≤t.c.id∧t.c.id≤65535:=by
 have w0:∀(b:ByteArray) (f:Bool),b.size≤8→(wrongC b f).word.size≤8∧0≤(wrongC b f).id∧(wrongC b f).id≤65535:=fun b f hb=>⟨hb,Int.le_refl _,(by show(0:Int)≤65535;omega)⟩
 have n0:noB.size≤8:=by decide
 unfold readR at h;split at h
 ·unfold lnR at h;split at h
  ·unfold lineR at h;split at h
   ·unfold setR at h;split at h
    ·cases h;exact w0 _ _ (by decide)
    ·split at h
     ·cases h
     ·split at h
      ·cases h;exact w0 _ _ (by decide)
      ·cases h;exact⟨n0,Int.le_refl _,(by show(0:Int)≤65535;omega)⟩
   ·split at h
    ·cases h;exact w0 _ _ (by decide)
    ·cases h;exact⟨n0,Int.le_refl _,(by show(0:Int)≤65535;omega)⟩
  ·split at h
   ·cases h;exact w0 _ _ (by decide)
   ·cases h
 ·split at h
  ·unfold frR at h;split at h
   ·cases h
   ·split at h
    ·cases h;exact w0 _ _ (by decide)
    ·split at h
     ·cases h
     ·split at h
      ·cases h;exact w0 _ _ (by decide)
      ·cases h;have h1:=byAt_lt bs 5;have h2:=byAt_lt bs (5+1);refine⟨n0,?_,?_⟩
       ·show(0:Int)≤((numAt bs 5:Nat):Int);omega
       ·show((numAt bs 5:Nat):Int)≤65535;have:numAt bs 5≤65535:=by unfold numAt;omega
        omega
  ·unfold lsR at h;simp only at h;split at h
   ·cases h;exact w0 _ _ (by decide)
   ·split at h
    ·cases h
    ·cases h;exact texts_word _ _
theorem read_cmdOk (h:readR d bs=some t):CmdOk t.c:=by
 obtain⟨hw,hi0,hi1⟩:=read_word h;rcases(read_ok h).or_ with⟨h1,_⟩|⟨h1,h2,h3,_⟩
 ·obtain⟨k,a,b,c,e⟩:=cmdB_in h1;exact⟨b,c,e,hi0,hi1,fun hk=>by rw[hk]at a;simp at a,fun _=>k⟩
 ·refine⟨by rw[h2];simp,by rw[h2];simp,by rw[h3];decide,hi0,hi1,fun _=>⟨h1,hw⟩,fun hk=>absurd h2 hk⟩
theorem jsend_nil (X C q:Nat)(kv:Value)(ka:Option Addr)(kc:Nat)(k:Int)(val wd:ByteArray)(ft:Bool)(cid n:Int)(fa re:Bool)(yv vv:Value)(w:World)(hq:w.heap[q]?=some (quO k (.slice ka 0 kc) val wd ft cid n fa re yv vv)):Calls Tryz.prog 91 #[.pointer (some ⟨X,0,none⟩),.pointer (some ⟨C,0,none⟩),.pointer (some ⟨q,0,none⟩)] w fun e w'=>e= .returned (.tuple #[])∧w'=w:=by
 have q1:w.cell? ⟨q,1,none⟩=some (.slice ka 0 kc):=blkCell hq 1;have hql:=blkLt hq;clear hq;go_enter Tryz.func91,Tryz.ntmps91;go_wp2_with fail
 go_loopw [15] (fun i wr=>i= .int .i64 0∧wr=w) (fun _ _=>0)
 case atStart=>exact⟨rfl,rfl⟩
 case round=>
  obtain⟨rfl,rfl⟩:=hrel;go_wp2;go_end0;exact⟨rfl,rfl⟩
variable {w:World}{M A B:List Nat}
theorem Later.app {w':World}{A' B':List Nat}(h:Later w M (A++B))(hs:w.heap.size≤w'.heap.size)(ha:Later w' A A')(hb:Later w' B B'):Later w M (A'++B'):=fun b hm=>by
 rcases List.mem_append.1 hm with h1|h1
 ·rcases ha b h1 with h2|h2
  ·exact h b (List.mem_append.2 (.inl h2))
  ·exact .inr (by omega)
 ·rcases hb b h1 with h2|h2
  ·exact h b (List.mem_append.2 (.inr h2))
  ·exact .inr (by omega)
theorem Later.left (h:Later w M (A++B)):Later w M A:=fun b hb=>h b (List.mem_append.2 (.inl hb))
def onM (bv:Value)(w:World)(R:Nat):Nat:=match bv with| .bool true=>heldLen w R+1|_=>0
set_option maxHeartbeats 1000000
set_option maxRecDepth 100000
structure JunAt (W:World)(X sv pt win g sc:Nat)(cv:Value)(cis:List CliI)(cs:List CliS)(vs:List SvI)(ss:List SrvS):Prop where
 blk:W.heap[X]?=some (juO sv pt win cv (.slice (some ⟨g,0,none⟩) sv sc))
 gb:∃Zg,W.heap[g]?=some (.cells Zg 137 (0,0))∧∀(j:Nat) (u:SvI),vs[j]?=some u→Zg[j]?=some (.pointer (some ⟨u.S,0,none⟩))
 len:vs.length=sv
 s1:1≤sv
 s4:sv≤4
 sc_:sv≤sc
 pt_:pt≤16
 row:W.ownsRow 0 116 1 cv cis.length (cis.map (fun v=>ptrV v.C))
 cl:cis.length=cs.length
 cli:∀(i:Nat) (v:CliI) (s:CliS),cis[i]?=some v→cs[i]?=some s→CliOk W win v s
 cap:∀(i j:Nat) (v u:CliI),i≠j→cis[i]?=some v→cis[j]?=some u→∀b∈v.foot,b∉u.foot
 srv:SvsAt W vs ss
 ap:∀(i:Nat) (v:CliI),cis[i]?=some v→∀b∈v.foot,b∉feetV vs
def footJ (X:Nat)(cv:Value)(cis:List CliI)(vs:List SvI):List Nat:=X::(cv.ownBlock.toList++((cis.map CliI.foot).flatten++feetV vs))
theorem at_no (F:Nat)(hF:F=56∨F=60)(a:Option Addr)(n c:Nat)(k:Int)(w:World)(hn:n≤1000000)(h:k<0∨(n:Int)≤k):Calls Tryz.prog F #[.slice a n c,.int .i64 k] w fun e w'=>e= .returned (.tuple #[.pointer none,.int .i64 1])∧w'=w:=by
 rcases hF with rfl|rfl
 ·rcases h with h|h
  ·go_enter Tryz.func56,Tryz.ntmps56;go_wp2;go_ret2;exact⟨rfl,rfl⟩
  ·have h0:¬k<0:=by omega
   go_enter Tryz.func56,Tryz.ntmps56;go_wp2;go_ret2;exact⟨rfl,rfl⟩
 ·rcases h with h|h
  ·go_enter Tryz.func60,Tryz.ntmps60;go_wp2;go_ret2;exact⟨rfl,rfl⟩
  ·have h0:¬k<0:=by omega
   go_enter Tryz.func60,Tryz.ntmps60;go_wp2;go_ret2;exact⟨rfl,rfl⟩
theorem at_yes (F:Nat)(hF:F=56∨F=60)(g n c k b:Nat)(w:World)(hn:n≤1000000)(h:k<n)(hc:w.cell? ⟨g,k,none⟩=some (.pointer (some ⟨b,0,none⟩)))(hl:g<w.heap.size):Calls Tryz.prog F #[.slice (some ⟨g,0,none⟩) n c,.int .i64 (k:Int)] w fun e w'=>e= .returned (.tuple #[.pointer (some ⟨b,0,none⟩),.int .i64 0])∧w'=w:=by
 have h0:¬(k:Int)<0:=by omega
 have h1:¬(n:Int)≤(k:Int):=by omega
 have h2:(k:Int)<(n:Int):=by omega
 rcases hF with rfl|rfl
 ·go_enter Tryz.func56,Tryz.ntmps56;go_wp2;go_ret2;exact⟨rfl,rfl⟩
 ·go_enter Tryz.func60,Tryz.ntmps60;go_wp2;go_ret2;exact⟨rfl,rfl⟩
end Go.Proofs.YtlonjggfnleolaaGreatDoor
namespace Go.Proofs.YtlonjggfnleolaaGreatDoor
open Go.RowKit Go.Shelf
set_option linter.unusedVariables false
variable {w:World}{v:Value}{xs:List Value}{a:Act}{P:Program}{o:Oper}{Q:Exit→Act→World→Prop}
def OffRow (w:World)(e:TypeId)(v:Value)(xs:List Value):Prop:=
 (v= .slice none 0 0∧xs=[])∨∃(g off cap:Nat) (cur:Array Value),v= .slice (some ⟨g,off,none⟩) xs.length cap∧w.heap[g]?=some (.cells cur e (0,0))∧xs.length≤cap∧off+cap≤cur.size∧∀(i:Nat) (x:Value),xs[i]?=some x→cur[off+i]?=some x
theorem OffRow.other {w':World}{e:TypeId}(h:OffRow w e v xs)(k:∀g,v.ownBlock=some g→w'.heap[g]?=w.heap[g]?):OffRow w' e v xs:=by
 rcases h with h|⟨g,off,cap,cur,rfl,h1,h2⟩
 ·exact .inl h
 ·exact .inr ⟨g,off,cap,cur,rfl,(k g rfl).trans h1,h2⟩
theorem OffRow.blk {e:TypeId}(h:OffRow w e v xs){g:Nat}(hg:v.ownBlock=some g):∃cur,w.heap[g]?=some (.cells cur e (0,0)):=by
 rcases h with⟨rfl,_⟩|⟨g',off,cap,cur,rfl,h1,_⟩
 ·cases hg
 ·cases hg;exact⟨cur,h1⟩
theorem OffRow.len {e:TypeId}(h:OffRow w e v xs):∃a c,v= .slice a xs.length c:=by
 rcases h with⟨rfl,h0⟩|⟨g',off,cap,cur,rfl,_⟩
 ·exact⟨none,0,by rw[h0];rfl⟩
 ·exact⟨_,_,rfl⟩
theorem OffRow.tail {e:TypeId}{x:Value}{a:Addr}{c:Nat}(h:OffRow w e (.slice (some a) (xs.length+1) c) (x::xs)):OffRow w e (.slice (some ⟨a.block,a.off+1,none⟩) xs.length (c-1)) xs:=by
 rcases h with⟨h,_⟩|⟨g,off,cap,cur,h,h1,h2,h3,h4⟩
 ·cases h
 ·cases h;simp only[List.length_cons]at h2;refine .inr ⟨g,off+1,c-1,cur,rfl,h1,by omega,by omega,fun i y hy=>?_⟩;have:=h4 (i+1) y (by simpa using hy);rw[show off+1+i=off+(i+1)by omega];exact this
theorem run_append_off (w:World)(t ty e:TypeId)(i:TypeInfo)(z:Value)(ht:P.underlying t=some (.slice e))(hi:P.info? e=some i)(hz:i.zero=some z)(hz1:z.cells.size=1)(hs:i.size=1)(hb:i.bytes=8)(v:Value)(xs:List Value)(hrow:OffRow w e v xs)(ad:Addr)(c:Nat)(u:Value)(hu:w.cell? ad=some u)(hu1:u.oneCell'=true)(hn:xs.length≤1000000):∃v' w',(Builtin.append_ #[t,t] ty #[v,.slice (some ad) 1 c]).run P w= .ok v' w'∧OffRow w' e v' (xs++[u])∧Chg v.ownBlock.toList w w'∧(v'.ownBlock=v.ownBlock∨v'.ownBlock=some w.heap.size):=by
 have hsrc:Src P i.size t (.slice (some ad) 1 c) 1 [u] w:=Src.ofSlice w ht ad 1 c [u] (by rw[hs];rfl) (fun j y hy=>by
  cases j with
  |zero=>
   simp at hy;subst hy;rw[show ad.add 0=ad from by unfold Addr.add;simp];exact hu
  |succ j=>simp at hy) (fun y hy=>by simp at hy;rw[hy];exact hu1)
 have grow:∀(base:Option Addr) (sCap:Nat),v= .slice base xs.length sCap→sCap<xs.length+1→(∀(j:Nat) (y:Value),xs[j]?=some y→∃a,base=some a∧w.cell? (a.add j)=some y)→∃v' w',(Builtin.append_ #[t,t] ty #[v,.slice (some ad) 1 c]).run P w= .ok v' w'∧OffRow w' e v' (xs++[u])∧Chg v.ownBlock.toList w w'∧(v'.ownBlock=v.ownBlock∨v'.ownBlock=some w.heap.size):=fun base sCap hv hg hold=>by
  have hfirst:(Builtin.firstCells i.size xs.length (.slice base xs.length sCap)).run P w.drew= .ok xs.toArray w.drew:=by
   cases base with
   |none=>
    have h0:xs=[]:=by
     cases xs with
     |nil=>rfl
     |cons y ys=>obtain⟨a,ha,_⟩:=hold 0 y rfl;cases ha
    subst h0;exact run_firstCells_none w.drew i.size 0 0 sCap
   |some a=>
    exact run_firstCells_some w.drew i.size xs.length a xs.length sCap xs (by rw[hs,Nat.mul_one]) (fun j y hy=>by
     obtain⟨a',ha,hc⟩:=hold j y hy;cases ha;simpa using hc)
  have hcap:=nextslicecap_le (need:=xs.length+1) (old:=sCap) hg;have hr:=run_append_grow_src (P:=P) w t t ty e i z ht hi hz base xs.length sCap xs hfirst (.slice (some ad) 1 c) 1 [u] hsrc hg (by omega) (by rw[hb];omega);rw[←hv]at hr;have hge:=grownCap_ge w (xs.length+1) sCap e;refine⟨_,_,hr,.inr ⟨w.heap.size,0,grownCap w (xs.length+1) sCap e,_,by simp,hs_new rfl,by simpa using hge,?_,fun j y hy=>?_⟩,?_,.inr rfl⟩
  ·simp[Builtin.zeroCells,hz1];omega
  ·rw[Nat.zero_add];have hj:=(List.getElem?_eq_some_iff.1 hy).1;rw[Array.getElem?_append_left (by simpa using hj)];simpa using hy
  ·exact Chg.of_below ((Below.refl _ w).drew.alloc (Nat.le_refl _) _)
 rcases hrow with⟨rfl,rfl⟩|⟨g,off,cap,cur,rfl,h1,h2,h3,h4⟩
 ·exact grow none 0 rfl (by simp) (fun j y hy=>by simp at hy)
 ·by_cases hroom:xs.length+1≤cap
  ·have hcell:∀j,w.cell? ⟨g,j,none⟩=cur[j]?:=fun j=>blkCell h1 j
   have hr:=run_append_room_src (P:=P) w t t ty e i ht hi g off xs.length cap (.slice (some ad) 1 c) 1 [u] hsrc hroom (fun j hj=>by
    simp at hj;subst hj;rw[hcell,hs,Array.getElem?_eq_getElem (by omega)];rfl) (fun j hj=>blkFree h1 _)
   refine⟨_,_,hr,.inr ⟨g,off,cap,cur.set! (off+xs.length) u,by simp,?_,by simpa using hroom,by simpa using h3,fun j y hy=>?_⟩,?_,.inl rfl⟩
   ·rw[hs,Nat.mul_one];exact blkSet h1 u
   ·by_cases hj:j<xs.length
    ·rw[List.getElem?_append_left hj]at hy;have:=h4 j y hy;rw[Array.set!_eq_setIfInBounds,Array.getElem?_setIfInBounds_ne (by omega)];exact this
    ·have hj2:=(List.getElem?_eq_some_iff.1 hy).1;simp at hj2;have hj3:j=xs.length:=by omega
     subst hj3;rw[List.getElem?_append_right (Nat.le_refl _)]at hy;simp at hy;subst hy;rw[Array.set!_eq_setIfInBounds,Array.getElem?_setIfInBounds_self];simp;omega
   ·rw[hs,Nat.mul_one];exact(Chg.refl _ w).set (.inl (by simp[Value.ownBlock])) u
  ·exact grow (some ⟨g,off,none⟩) cap rfl (by omega) (fun j y hy=>⟨_,rfl,by
    rw[show(⟨g,off,none⟩:Addr).add j=⟨g,off+j,none⟩from by unfold Addr.add;simp];rw[blkCell h1];exact h4 j y hy⟩)
theorem wp_append_off {P:Program}(w:World){a:Act}{K:Act→World→Prop}{Q:Exit→Act→World→Prop}(s x:Operand)(t:TypeId)(ho:o.op= .call {callee:= .builtin .append,args:=#[s,x],argTypes:=#[t,t]})(e:TypeId)(i:TypeInfo)(z:Value)(ht:P.underlying t=some (.slice e))(hi:P.info? e=some i)(hz:i.zero=some z)(hz1:z.cells.size=1)(hs1:i.size=1)(hb:i.bytes=8)(v:Value)(xs:List Value)(hs:a.eval s=v)(hrow:OffRow w e v xs)(ad:Addr)(c:Nat)(u:Value)(hx:a.eval x= .slice (some ad) 1 c)(hu:w.cell? ad=some u)(hu1:u.oneCell'=true)(hn:xs.length≤1000000)(h:∀va vc w',OffRow w' e (.slice va (xs.length+1) vc) (xs++[u])→Chg v.ownBlock.toList w w'→((Value.slice va (xs.length+1) vc).ownBlock=v.ownBlock∨(Value.slice va (xs.length+1) vc).ownBlock=some w.heap.size)→K (a.put o.dst (.slice va (xs.length+1) vc)) w'):Oper.wp P o a w K Q:=by
 obtain⟨v',w',hr,h2,h3,h4⟩:=run_append_off (P:=P) w t o.type e i z ht hi hz hz1 hs1 hb v xs hrow ad c u hu hu1 hn;obtain⟨va,vc,hv⟩:=h2.len;rw[List.length_append,List.length_singleton]at hv;subst hv;unfold Oper.wp execOp;simp only[ho,resolve,invoke,builtin,Sem.run_bind,Sem.run_pure,Result.andThen_ok,List.map_toArray,List.map_cons,List.map_nil,hs,hx,hr]
 exact h va vc w' h2 h3 h4
theorem wpList_append_off {P:Program}(w:World){ops:Array Oper}{rest:List Oper}{a:Act}{Q:Exit→Act→World→Prop}(hgd:o.guard=none)(s x:Operand)(t:TypeId)
 (ho:o.op= .call {callee:= .builtin .append,args:=#[s,x],argTypes:=#[t,t]})
 (e:TypeId) (i:TypeInfo) (z:Value) (ht:P.underlying t=some (.slice e)) (hi:P.info? e=some i) (hz:i.zero=some z) (hz1:z.cells.size=1) (hs1:i.size=1) (hb:i.bytes=8)
 (v:Value) (xs:List Value) (hs:a.eval s=v) (hrow:OffRow w e v xs) (ad:Addr) (c:Nat) (u:Value) (hx:a.eval x= .slice (some ad) 1 c) (hu:w.cell? ad=some u) (hu1:u.oneCell'=true) (hn:xs.length≤1000000)
 (h:∀va vc w',OffRow w' e (.slice va (xs.length+1) vc) (xs++[u])→Chg v.ownBlock.toList w w'→((Value.slice va (xs.length+1) vc).ownBlock=v.ownBlock∨(Value.slice va (xs.length+1) vc).ownBlock=some w.heap.size)→wpList P ops Q rest (a.put o.dst (.slice va (xs.length+1) vc)) w'):wpList P ops Q (o::rest) a w:=
 wpList_plain hgd fun _ hK=>wp_append_off w s x t ho e i z ht hi hz hz1 hs1 hb v xs hs hrow ad c u hx hu hu1 hn fun va vc w' h2 h3 h4=>hK _ _ (h va vc w' h2 h3 h4)
variable {w:World}{n:Nat}{v:Value}{xs:List Value}
def rjO (sv pt win:Int)(cv rv:Value):Obj:= .cells #[.int .i64 sv,.int .i64 pt,.int .i64 win,cv,rv] 240 (0,0)
def rcO (d:Int)(Y:Nat)(wv:Value)(told:List UInt8):Obj:= .cells #[.int .i64 d,.pointer (some ⟨Y,0,none⟩),wv,.string (mkB told)] 247 (0,0)
def rsO (up:Bool)(next:Int)(inn:ByteArray)(sent:List UInt8):Obj:= .cells #[.bool up,.int .i64 next,.string inn,.string (mkB sent)] 243 (0,0)
def rwO (c:Cmd)(kv pv:Value):Obj:= .cells #[.int .i64 c.kind,kv,.string c.val,.string c.word,.bool c.fatal,.int .i64 c.id,pv] 266 (0,0)
def rpO (o id st:Int)(kd:Int)(val:ByteArray):Obj:= .cells #[.int .i64 o,.int .i64 id,.int .i64 st,.int .i64 kd,.string val] 253 (0,0)
structure RPart where
 B:Nat
 o:Nat
 id:Nat
structure RWaitI where
 B:Nat
 kv:Value
 pv:Value
 ps:List RPart
structure RCliI where
 K:Nat
 Y:Nat
 wv:Value
 ws:List RWaitI
structure RPartOk (W:World)(ss:List SrvS)(p:RPart):Prop where
 blk:∃kd val,W.heap[p.B]?=some (rpO p.o p.id 0 kd val)
 lt:∃s,ss[p.o]?=some s∧p.id<s.next
structure RWaitOk (W:World)(ss:List SrvS)(c:Cmd)(v:RWaitI):Prop where
 blk:W.heap[v.B]?=some (rwO c v.kv v.pv)
 row:W.ownsRow 0 249 1 v.pv v.ps.length (v.ps.map (fun p=>ptrV p.B))
 len:v.ps.length=c.keys.length
 ok:∀p∈v.ps,RPartOk W ss p
 kn:c.keys=[]→∃ka kc,v.kv= .slice ka 0 kc∧((∃b o,ka=some ⟨b,o,none⟩∧b<v.B)∨kc=0)
structure RCliOk (W:World)(ss:List SrvS)(v:RCliI)(s:CliS):Prop where
 blk:W.heap[v.K]?=some (rcO s.d v.Y v.wv s.told)
 rd:RefAt W v.Y s.d s.st
 row:OffRow W 263 v.wv (v.ws.map (fun u=>ptrV u.B))
 len:v.ws.length=s.waits.length
 ok:∀(i:Nat) (u:RWaitI) (c:Cmd),v.ws[i]?=some u→s.waits[i]?=some c→RWaitOk W ss c u∧OkC s.d c
structure RJunAt (W:World)(X sv pt win:Nat)(cv rv:Value)(cis:List RCliI)(cs:List CliS)(vs:List Nat)(ss:List SrvS):Prop where
 blk:W.heap[X]?=some (rjO sv pt win cv rv)
 crow:W.ownsRow 0 244 1 cv cis.length (cis.map (fun v=>ptrV v.K))
 srow:W.ownsRow 0 241 1 rv vs.length (vs.map ptrV)
 len:vs.length=sv
 sl:ss.length=sv
 s1:1≤sv
 s4:sv≤4
 pt_:pt≤16
 cl:cis.length=cs.length
 cli:∀(i:Nat) (v:RCliI) (s:CliS),cis[i]?=some v→cs[i]?=some s→RCliOk W ss v s
 srv:∀(j:Nat) (S:Nat) (s:SrvS),vs[j]?=some S→ss[j]?=some s→∃inn,W.heap[S]?=some (rsO true s.next inn s.sent)
theorem row_form {e:TypeId}(h:w.ownsRow 0 e 1 v n xs):∃a c,v= .slice a n c:=by
 rcases h.2 with⟨e,h0⟩|⟨g',cap,cur,e,_⟩
 ·exact⟨_,_,by rw[e,h0]⟩
 ·exact⟨_,_,e⟩
theorem row_at {e:TypeId}(h:w.ownsRow 0 e 1 v n xs)(hl:xs.length=n){i:Nat}{x:Value}(hx:xs[i]?=some x):∃g c,v= .slice (some ⟨g,0,none⟩) n c∧g<w.heap.size∧w.cell? ⟨g,i,none⟩=some x:=by
 have hi:=(List.getElem?_eq_some_iff.1 hx).1;rcases h.2 with⟨e,h0⟩|⟨g',cap,cur,e,_,h1,h2,_,_,h5⟩
 ·omega
 ·refine⟨g',cap,e,blkLt h1,?_⟩;rw[blkCell h1 i];have h6:(cur.toList.take (n*1))[i]?=xs[i]?:=by rw[h5]
  rw[List.getElem?_take_of_lt (by omega),hx]at h6;simpa using h6
variable {Ts:List Nat}{W W':World}
def KeepT (Ts:List Nat)(W W':World):Prop:=∀(b T:Nat) (Z:Array Value) (f:Nat×Nat),W.heap[b]?=some (.cells Z T f)→T∈Ts→W'.heap[b]?=W.heap[b]?
theorem KeepT.sub {Us:List Nat}(h:KeepT Ts W W')(hs:∀t∈Us,t∈Ts):KeepT Us W W':=fun b T Z f hZ hT=>h b T Z f hZ (hs T hT)
theorem KeepT.trans {A B C:World}(h:KeepT Ts A B)(k:KeepT Ts B C):KeepT Ts A C:=fun b T Z f hZ hT=>by
 have h1:=h b T Z f hZ hT
 exact(k b T Z f (h1.trans hZ) hT).trans h1
theorem KeepT.below (h:Below W.heap.size W W'):KeepT Ts W W':=fun b T Z f hZ _=>h.block b (blkLt hZ)
theorem KeepT.chg {M:List Nat}(h:Chg M W W')(hM:∀(b T:Nat) (Z:Array Value) (f:Nat×Nat),b∈M→W.heap[b]?=some (.cells Z T f)→T∉Ts):KeepT Ts W W':=fun b T Z f hZ hT=>h.block b (blkLt hZ) (fun hm=>hM b T Z f hm hZ hT)
theorem KeepT.row (h:KeepT Ts W W'){e:Nat}(he:e∈Ts){n:Nat}{v:Value}{xs:List Value}(hr:W.ownsRow 0 e 1 v n xs):W'.ownsRow 0 e 1 v n xs:=ownsRow_other hr (fun g hg=>by obtain⟨cur,hc⟩:=ownsRow_blk hr hg;exact h g e _ _ hc he)
variable {d:Int}{bs:List UInt8}{t:StepR}
theorem texts_let (ts:List ByteArray)(used:Nat):wordB (textsR ts used).c.word=true∨(textsR ts used).c.word=noB:=by
 unfold textsR;simp only
 generalize (if kindB (ts.getD 0 noB)=2 then(if(ts.drop 1).length=2 then(ts.drop 1).take 1 else [])else ts.drop 1)=keys;generalize (if kindB (ts.getD 0 noB)=2∧(ts.drop 1).length=2 then(ts.drop 1).getD 1 noB else noB)=val;generalize kindB (ts.getD 0 noB)=k;cases hc:cmdB k keys val with
 |true=>rw[if_pos rfl];exact .inr rfl
 |false=>rw[if_neg (by decide)];exact .inl (by show wordB dataB=true;decide)
theorem read_let (h:readR d bs=some t):wordB t.c.word=true∨t.c.word=noB:=by
 have w0:∀(b:ByteArray) (f:Bool),wordB b=true→wordB (wrongC b f).word=true∨(wrongC b f).word=noB:=fun b f hb=> .inl hb
 unfold readR at h;split at h
 ·unfold lnR at h;split at h
  ·unfold lineR at h;split at h
   ·unfold setR at h;split at h
    ·cases h;exact w0 _ _ (by decide)
    ·split at h
     ·cases h
     ·split at h
      ·cases h;exact w0 _ _ (by decide)
      ·cases h;exact .inr rfl
   ·split at h
    ·cases h;exact w0 _ _ (by decide)
    ·cases h;exact .inr rfl
  ·split at h
   ·cases h;exact w0 _ _ (by decide)
   ·cases h
 ·split at h
  ·unfold frR at h;split at h
   ·cases h
   ·split at h
    ·cases h;exact w0 _ _ (by decide)
    ·split at h
     ·cases h
     ·split at h
      ·cases h;exact w0 _ _ (by decide)
      ·cases h;exact .inr rfl
  ·unfold lsR at h;simp only at h;split at h
   ·cases h;exact w0 _ _ (by decide)
   ·split at h
    ·cases h
    ·cases h;exact texts_let _ _
structure WOk (d:Int)(c:Cmd):Prop where
 cm:CmdOk c
 ok:OkC d c
 wd:c.keys=[]→wordB c.word=true
theorem read_wOk (h:readR d bs=some t):WOk d t.c:=
 ⟨read_cmdOk h,read_ok h,fun hk=>by
  rcases read_let h with h1|h1
  ·exact h1
  ·rcases(read_ok h).or_ with⟨h2,_⟩|⟨_,_,_,h2⟩
   ·have:=(cmdB_in h2).2.1;rw[hk]at this;simp at this
   ·rw[h1]at h2;exact absurd h2 (by decide)⟩
theorem cmdB_one {k:Int}{ks:List ByteArray}{val key:ByteArray}(h:cmdB k ks val=true)(hk:key∈ks):cmdB k [key] val=true:=by
 have aux:∀m:Int,1≤m→keysB ks m=true→keysB [key] m=true:=fun m hm h1=>by
  unfold keysB at h1⊢;rw[Bool.and_eq_true,List.all_eq_true]at h1;rw[Bool.and_eq_true];refine⟨?_,by simpa using h1.2 key hk⟩;unfold withinB;simp;omega
 unfold cmdB at h⊢;split at h
 ·rename_i e;rw[if_pos e];rw[Bool.and_eq_true]at h⊢;exact⟨aux 4 (by omega) h.1,h.2⟩
 ·rename_i e;rw[if_neg e];split at h
  ·rename_i e2;rw[if_pos e2];rw[Bool.and_eq_true]at h⊢;exact⟨aux 1 (by omega) h.1,h.2⟩
  ·rename_i e2;rw[if_neg e2];split at h
   ·rename_i e3;rw[if_pos e3];rw[Bool.and_eq_true]at h⊢;exact⟨aux 1 (by omega) h.1,h.2⟩
   ·cases h
end Go.Proofs.YtlonjggfnleolaaGreatDoor
