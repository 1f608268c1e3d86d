import Derived.Test.YtlonjggfnleolaaGreatDoorReadEx
import Derived.Laws.BitsAllLaws
import Derived.Deep.RegionWith
import Derived.Shelf.Strings.Builder1
import Derived.Shelf.Strings.Builder2
import Derived.Shelf.Strings.OnBuilder
import Derived.Test.YtlonjggfnleolaaGreatDoorProg
import Derived.Deep.RegionHeld3
import Derived.Deep.Cut
namespace Go.Proofs.YtlonjggfnleolaaGreatDoor
open Go.RowKit
set_option linter.unusedVariables false
set_option maxHeartbeats 1000000
def pt (s p:Nat):ByteArray:=dec100 s++⟨#[58]⟩++dec100 p
theorem pt_size (s p:Nat):(pt s p).size≤5:=by
 have h1:=dec100_size s;have h2:=dec100_size p;have h3:(ByteArray.mk #[58]).size=1:=rfl;unfold pt;rw[ByteArray.size_append,ByteArray.size_append];omega
def awayN (fr:Int)(s p:Nat):Int:=(num (pt s p).data.toList-fr) % 4294967296
theorem away_any (fr:Int)(s p:Nat)(w:World)(hf:0≤fr∧fr<4294967296)(hs:s<100)(hp:p<100):Calls Tryz.prog 83 #[.int .u32 fr,.int .i64 s,.int .i64 p] w fun e w'=>e= .returned (.int .u32 (awayN fr s p))∧w'=w:=by
 have h1:=dec100_size s;have h2:=dec100_size p;have h3:=pt_size s p;have h4:(pt s p).size≤maxLen:=by unfold maxLen;omega
 obtain⟨hf1,hf2⟩:=hf;go_enter Tryz.func83,Tryz.ntmps83;go_wp2_with fail
 go_at_call 122;refine(itoa_any _ _ hs).mono ?_;rintro e w' ⟨rfl,rfl⟩;go_wp2_with fail
 go_at_call 122;refine(itoa_any _ _ hp).mono ?_;rintro e w' ⟨rfl,rfl⟩;go_wp2_with fail
 go_at_call 82;refine(number_any (pt s p) _ h4).mono ?_;rintro e w' ⟨rfl,rfl⟩;have h5:=num_bd (pt s p).data.toList;go_wp2;go_ret;exact⟨rfl,rfl⟩
def stepO (fr:Int)(s p:Nat)(x:Nat×Int):Nat×Int:=if awayN fr s p<x.2 then(s,awayN fr s p)else x
def innerO (fr:Int)(s:Nat)(x:Nat×Int):Nat→Nat×Int
 |0=>x
 |k+1=>stepO fr s k (innerO fr s x k)
def outerO (fr:Int)(p:Nat):Nat→Nat×Int
 |0=>(0,awayN fr 0 0)
 |k+1=>innerO fr k (outerO fr p k) p
theorem stepO_or (fr:Int)(s p:Nat)(x:Nat×Int):(stepO fr s p x).1=x.1∨(stepO fr s p x).1=s:=by
 unfold stepO;split
 ·exact .inr rfl
 ·exact .inl rfl
theorem innerO_or (fr:Int)(s:Nat)(x:Nat×Int)(k:Nat):(innerO fr s x k).1=x.1∨(innerO fr s x k).1=s:=by
 induction k with
 |zero=>exact .inl rfl
 |succ k ih=>
  have:=stepO_or fr s k (innerO fr s x k);simp only[innerO]
  omega
theorem outerO_succ (fr:Int)(p k:Nat):(outerO fr p (k+1)).1=(outerO fr p k).1∨(outerO fr p (k+1)).1=k:=innerO_or fr k _ p
theorem outerO_lt (fr:Int)(p k:Nat):(outerO fr p (k+1)).1≤k:=by
 induction k with
 |zero=>have:=outerO_succ fr p 0;have h:(outerO fr p 0).1=0:=rfl;omega
 |succ k ih=>have:=outerO_succ fr p (k+1);omega
theorem rowner_any (s p:Nat)(key:ByteArray)(w:World)(hs:s≤4)(hp:p≤16)(hk:key.size≤maxLen):Calls Tryz.prog 51 #[.int .i64 s,.int .i64 p,.string key] w fun e w'=>e= .returned (.int .i64 (outerO (num key.data.toList) p s).1)∧w'=w:=by
 have hb:=num_bd key.data.toList;go_enter Tryz.func51,Tryz.ntmps51;go_wp2_with fail
 go_at_call 82;refine(number_any key _ hk).mono ?_;rintro e w' ⟨rfl,rfl⟩;generalize hfr:num key.data.toList=fr at*;have HF:Hid (num key.data.toList=fr):=hfr;clear hfr;go_wp2_with fail
 go_at_call 83;refine(away_any fr 0 0 _ hb (by omega) (by omega)).mono ?_;rintro e w' ⟨rfl,rfl⟩;go_wp2;go_loop [8,9,18] (fun o l i=>∃k:Nat,k≤s∧i= .int .i64 k∧o= .int .i64 (outerO fr p k).1∧l= .int .u32 (outerO fr p k).2) (fun _ _ i=>s-(intOf i).toNat)
 case atStart=>exact⟨0,Nat.zero_le _,rfl,rfl,rfl⟩
 case round=>
  obtain⟨k,hk1,rfl,rfl,rfl⟩:=hrel;by_cases hlt:k<s
  ·generalize hx:outerO fr p k=x;have HX:Hid (outerO fr p k=x):=hx;clear hx;go_wp2;go_loop [8,9,22] (fun o l i=>∃j:Nat,j≤p∧i= .int .i64 j∧o= .int .i64 (innerO fr k x j).1∧l= .int .u32 (innerO fr k x j).2) (fun _ _ i=>p-(intOf i).toNat)
   case atStart=>exact⟨0,Nat.zero_le _,rfl,rfl,rfl⟩
   case round=>
    obtain⟨j,hj1,rfl,rfl,rfl⟩:=hrel;by_cases hjt:j<p
    ·generalize hy:innerO fr k x j=y;have HY:Hid (innerO fr k x j=y):=hy;clear hy;by_cases hd:awayN fr k j<y.2
     ·go_wp2_with (go_at_call 83;refine(away_any fr k j _ hb (by omega) (by omega)).mono ?_;rintro e w' ⟨rfl,rfl⟩)
      go_round
      case rel=>exact⟨j+1,by omega,by go_num,by simp[innerO,HY.out,stepO,hd],by simp[innerO,HY.out,stepO,hd]⟩
      case measure=>simp[intOf];omega
     ·go_wp2_with (go_at_call 83;refine(away_any fr k j _ hb (by omega) (by omega)).mono ?_;rintro e w' ⟨rfl,rfl⟩)
      go_round
      case rel=>exact⟨j+1,by omega,by go_num,by simp[innerO,HY.out,stepO,Int.not_lt.2 hd],by simp[innerO,HY.out,stepO,Int.not_lt.2 hd]⟩
      case measure=>simp[intOf];omega
    ·have hj2:j=p:=by omega
     subst hj2;go_wp2;go_round
     case rel=>exact⟨k+1,by omega,by go_num,by simp[outerO,HX.out],by simp[outerO,HX.out]⟩
     case measure=>simp[intOf];omega
  ·have hk2:k=s:=by omega
   subst hk2;go_wp2;go_ret;exact⟨ret_int (by rw[HF.out]),rfl⟩
def ownerN (s p:Nat)(key:ByteArray):Nat:=(outerO (num key.data.toList) p s).1
theorem ownerN_lt (s p:Nat)(key:ByteArray)(h:1≤s):ownerN s p key<s:=by
 obtain⟨k,rfl⟩:∃k,s=k+1:=⟨s-1,by omega⟩
 have:=outerO_lt (num key.data.toList) p k;unfold ownerN;omega
set_option maxHeartbeats 400000
theorem i64_xor_nat (a b:Nat)(ha:a<4294967296)(hb:b<4294967296):bits .xor .i64 (a:Int) (b:Int)=((a ^^^ b:Nat):Int):=by
 have hx:a ^^^ b<2 ^ 32:=Nat.xor_lt_two_pow (by omega) (by omega);show IntKind.i64.wrap ((BitVec.ofInt 64 (a:Int) ^^^ BitVec.ofInt 64 (b:Int)).toNat:Int)=_;rw[BitVec.toNat_xor,ofInt_u64 a (by omega),ofInt_u64 b (by omega)];simp[IntKind.wrap,IntKind.bits,IntKind.signed];omega
theorem hashTo_bd (l:List UInt8):0≤hashTo l∧hashTo l<4294967296:=by
 unfold hashTo;have:∀(l:List UInt8) (h:Int),0≤h∧h<4294967296→0≤l.foldl hstep h∧l.foldl hstep h<4294967296:=by
  intro l;induction l with
  |nil=>exact fun h hh=>hh
  |cons b l ih=>intro h _;exact ih _ (by unfold hstep;omega)
 exact this l _ (by omega)
theorem xor_same (h:Int)(b:UInt8)(h1:0≤h)(h2:h<4294967296):∃X:Int,0≤X∧X<4294967296∧bits .xor .i64 h (b.toNat:Int)=X∧hstep h b=X*16777619 % 4294967296:=by
 obtain⟨n,rfl⟩:=Int.eq_ofNat_of_zero_le h1;have hb:b.toNat<256:=b.toNat_lt;have e:(b.toNat:Int) % 4294967296=(b.toNat:Int):=by omega
 have hx:n ^^^ b.toNat<2 ^ 32:=Nat.xor_lt_two_pow (by omega) (by omega);refine⟨((n ^^^ b.toNat:Nat):Int),by omega,by omega,i64_xor_nat n b.toNat (by omega) (by omega),?_⟩;unfold hstep;rw[e,u32_xor_nat n b.toNat (by omega) (by omega)]
theorem ref_step (h:Int)(b:UInt8)(h1:0≤h)(h2:h<4294967296):(wrap64 (bits .xor .i64 h (wrap64 (b.toNat:Int))*16777619)).tmod 4294967296=hstep h b:=by
 obtain⟨X,x1,x2,hx,hy⟩:=xor_same h b h1 h2;have hb:b.toNat<256:=b.toNat_lt;have e1:wrap64 (b.toNat:Int)=(b.toNat:Int):=by unfold wrap64;omega
 have e2:wrap64 (X*16777619)=X*16777619:=by unfold wrap64;omega
 rw[e1,hx,e2,hy,Int.tmod_eq_emod_of_nonneg (by omega)]
theorem hash_any (s:ByteArray)(w:World)(hs:s.size≤maxLen):Calls Tryz.prog 164 #[.string s] w fun e w'=>e= .returned (.int .i64 (num s.data.toList))∧w'=w:=by
 unfold maxLen at hs;go_enter Tryz.func164,Tryz.ntmps164;go_wp2;go_loop [3,4] (fun h i=>∃k:Nat,k≤s.size∧i= .int .i64 k∧h= .int .i64 (hashTo (s.data.toList.take k))) (fun _ i=>s.size-(intOf i).toNat)
 case atStart=>exact⟨0,Nat.zero_le _,rfl,rfl⟩
 case round=>
  obtain⟨k,hk,rfl,rfl⟩:=hrel;obtain⟨b1,b2⟩:=hashTo_bd (s.data.toList.take k);by_cases hlt:k<s.size
  ·have HY:Hid ((wrap64 (bits .xor .i64 (hashTo (s.data.toList.take k)) (wrap64 (s[k].toNat:Int))*16777619)).tmod 4294967296=hashTo (s.data.toList.take (k+1))):=by
    show _=_;rw[ref_step _ _ b1 b2,take_snoc s k hlt];simp[hashTo]
   generalize hh:hashTo (s.data.toList.take k)=h at*;clear hh;go_wp2;go_round
   case rel=>exact⟨k+1,by omega,by go_num,by rw[HY.out]⟩
   case measure=>simp[intOf];omega
  ·have HN:Hid (num s.data.toList=hashTo (s.data.toList.take k)*16777619 % 4294967296):=by
    show _=_;rw[List.take_of_length_le (by simp;omega)];rfl
   generalize hashTo (s.data.toList.take k)=h at*;go_wp2;go_ret;exact⟨ret_int HN.out.symm,rfl⟩
def digs10:ByteArray:=⟨#[48,49,50,51,52,53,54,55,56,57]⟩
theorem digs10_at:∀n:Nat,n<10→digs10.extract n (n+1)=dec100 n:=by decide+kernel
theorem dec_two:∀n:Nat,n<100→¬n<10→dec100 (n / 10)++digs10.extract (n % 10) (n % 10+1)=dec100 n:=by decide+kernel
theorem decimal1 (n:Nat)(w:World)(hn:n<10):Calls Tryz.prog 142 #[.int .i64 n] w fun e w'=>e= .returned (.string (dec100 n))∧w'=w:=by
 go_enter Tryz.func142,Tryz.ntmps142;go_wp2;go_ret;exact⟨ret_str (digs10_at n hn),rfl⟩
theorem decimal1' (m:Int)(n:Nat)(w:World)(hm:m=n)(hn:n<10):Calls Tryz.prog 142 #[.int .i64 m] w fun e w'=>e= .returned (.string (dec100 n))∧w'=w:=by
 subst hm;exact decimal1 n w hn
theorem decimal_any (n:Nat)(w:World)(hn:n<100):Calls Tryz.prog 142 #[.int .i64 n] w fun e w'=>e= .returned (.string (dec100 n))∧∃q,w'=w.drewN q:=by
 by_cases h:n<10
 ·exact(decimal1 n w h).mono fun e w' ⟨he,hw⟩=>⟨he,0,by rw[hw];rfl⟩
 ·have HD:=dec_two n hn h;have hq:n / 10<10:=by omega
  have hr:n % 10<10:=by omega
  have hc:=dec100_size (n / 10);have hNl:¬(n:Int)<10:=by omega
  have HH:Hid (dec100 (n / 10)++digs10.extract (n % 10) (n % 10+1)=dec100 n):=HD;clear HD;go_enter Tryz.func142,Tryz.ntmps142;go_wp2;go_quiet ((go_at_call 142;exact Calls.quiet_of_same (decimal1' _ (n / 10) _ (by omega) hq)))
  go_wp2;go_ret;exact⟨ret_str HH.out,_,rfl⟩
set_option maxHeartbeats 400000
theorem sized_any (s:ByteArray)(w:World)(hs:s.size<100):Calls Tryz.prog 215 #[.string s] w fun e w'=>e= .returned (.string (dec100 s.size++⟨#[10]⟩++s++⟨#[10]⟩))∧w'=w:=by
 have hd:=dec100_size s.size;go_enter Tryz.func215,Tryz.ntmps215;go_wp2_with (go_at_call 122;refine(itoa_any _ _ hs).mono ?_;rintro e w' ⟨rfl,rfl⟩)
 go_ret;exact⟨rfl,rfl⟩
theorem bcell {W w1:World}(hb:Below W.heap.size W w1):(∀b o,b<W.heap.size→w1.cell? ⟨b,o,none⟩=W.cell? ⟨b,o,none⟩)∧(∀b o,b<W.heap.size→w1.frozen? ⟨b,o,none⟩=W.frozen? ⟨b,o,none⟩):=
 ⟨fun b o h=>hb.cell (p:=⟨b,o,none⟩) h,fun b o h=>hb.frozen (p:=⟨b,o,none⟩) h⟩
set_option maxHeartbeats 2000000
variable {s:ByteArray}
theorem ldB_cases (b:UInt8):(ldB b=true∧((97≤(b.toNat:Int)∧(b.toNat:Int)≤122)∨(48≤(b.toNat:Int)∧(b.toNat:Int)≤57)))∨(ldB b=false∧((b.toNat:Int)<48∨(57<(b.toNat:Int)∧(b.toNat:Int)<97)∨122<(b.toNat:Int))):=by
 unfold ldB letB digB;by_cases h1:97≤(b.toNat:Int)<;>by_cases h2:(b.toNat:Int)≤122<;>by_cases h3:48≤(b.toNat:Int)<;>by_cases h4:(b.toNat:Int)≤57<;>simp[h1,h2,h3,h4]<;>omega
theorem keyB_false {k:Nat}(h:k<s.size)(hf:ldB s[k]=false):keyB s=false:=by
 simp only[keyB,allLd,all_at h hf,Bool.and_false]
theorem keyB_rest (h:(s.data.toList.take s.size).all ldB=true):keyB s=withinB 1 s.size 8:=by
 have:allLd s=true:=by rw[allLd,←h,List.take_of_length_le (by simp)]
 simp only[keyB,this,Bool.and_true]
theorem refkey_any (s:ByteArray)(w:World)(hs:s.size≤maxLen):Calls Tryz.prog 137 #[.string s] w fun e w'=>e= .returned (.bool (keyB s))∧w'=w:=by
 unfold maxLen at hs;have HF:Hid (∀k (h:k<s.size),ldB s[k]=false→keyB s=false):=fun k h hf=>keyB_false h hf
 have HT:Hid ((s.data.toList.take s.size).all ldB=true→keyB s=withinB 1 s.size 8):=keyB_rest;generalize hKK:keyB s=KK at*;clear hKK;go_enter Tryz.func137,Tryz.ntmps137;go_wp2;go_loop [3] (fun i=>∃k:Nat,k≤s.size∧i= .int .i64 k∧Hid ((s.data.toList.take k).all ldB=true)) (fun i=>s.size-(intOf i).toNat)
 case atStart=>exact⟨0,Nat.zero_le _,rfl,(by show _=_;simp)⟩
 case round=>
  obtain⟨k,hk,rfl,hall⟩:=hrel;by_cases hlt:k<s.size
  ·rcases ldB_cases s[k]with⟨hb,h|h⟩|⟨hb,h|h|h⟩
   ·have HN:Hid ((s.data.toList.take (k+1)).all ldB=true):=by show _=_;rw[take_snoc s k hlt,List.all_append,hall.out];simp[hb]
    obtain⟨h1,h2⟩:=h;clear hb;go_wp2;all_goals go_round
    all_goals first|exact⟨k+1,by omega,by go_num,HN⟩|(simp[intOf];omega)
   ·have HN:Hid ((s.data.toList.take (k+1)).all ldB=true):=by show _=_;rw[take_snoc s k hlt,List.all_append,hall.out];simp[hb]
    obtain⟨h1,h2⟩:=h;clear hb;go_wp2;all_goals go_round
    all_goals first|exact⟨k+1,by omega,by go_num,HN⟩|(simp[intOf];omega)
   ·have HH:=HF.out k hlt hb;have H2:Hid (KK=false):=HH;clear hb HH;go_wp2;all_goals(go_ret;exact⟨ret_bool H2.out.symm,rfl⟩)
   ·have HH:=HF.out k hlt hb;have H2:Hid (KK=false):=HH;obtain⟨h1,h2⟩:=h;clear hb HH;go_wp2;all_goals(go_ret;exact⟨ret_bool H2.out.symm,rfl⟩)
   ·have HH:=HF.out k hlt hb;have H2:Hid (KK=false):=HH;clear hb HH;go_wp2;all_goals(go_ret;exact⟨ret_bool H2.out.symm,rfl⟩)
  ·have hk2:k=s.size:=by omega
   subst hk2;have HH:Hid (KK=withinB 1 s.size 8):=HT.out hall.out;by_cases h1:1≤s.size
   ·go_wp2;go_ret;refine⟨ret_bool ?_,rfl⟩;rw[HH.out];unfold withinB;simp;omega
   ·go_wp2;go_ret;refine⟨ret_bool ?_,rfl⟩;rw[HH.out];unfold withinB;simp;omega
set_option maxHeartbeats 4000000
set_option maxRecDepth 20000
variable {ss:List ByteArray}
def cmdB (k:Int)(ss:List ByteArray)(val:ByteArray):Bool:=
 if k=1 then keysB ss 4&&val.toList.isEmpty else if k=2 then keysB ss 1&&decide ((val.size:Int)≤40)else if k=3 then keysB ss 1&&val.toList.isEmpty else false
def cmdV6 (k:Int)(v:Value)(val wd:ByteArray)(ft:Bool)(id:Int):Value:= .agg #[.int .i64 k,v,.string val,.string wd,.bool ft,.int .i64 id]
theorem cmd_any (k:Int)(v:Value)(ss:List ByteArray)(val wd:ByteArray)(ft:Bool)(id:Int)(w:World)(h:StrsAt w v ss)(hv:val.size≤maxLen):Calls Tryz.prog 48 #[cmdV6 k v val wd ft id] w fun e w'=>e= .returned (.bool (cmdB k ss val))∧Below w.heap.size w w':=by
 unfold cmdV6;by_cases h1:k=1
 ·subst h1;have:=cmd_get v ss val wd ft id w h hv;simpa [cmdB]using this
 ·by_cases h2:k=2
  ·subst h2;have:=cmd_set v ss val wd ft id w h hv;simpa [cmdB]using this
  ·by_cases h3:k=3
   ·subst h3;have:=cmd_del v ss val wd ft id w h hv;simpa [cmdB]using this
   ·have:=cmd_other k v val wd ft id w h1 h2 h3;simpa [cmdB,h1,h2,h3]using this
theorem cmdB_bad {k:Int}{val:ByteArray}{i:Nat}{s:ByteArray}(h:ss[i]?=some s)(hf:keyB s=false):cmdB k ss val=false:=by
 unfold cmdB;rw[keysB_f2 h hf,keysB_f2 h hf];simp
theorem keysB_len {most:Int}(h:(ss.take ss.length).all keyB=true):keysB ss most=withinB 1 ss.length most:=by
 rw[List.take_length]at h;simp only[keysB,h,Bool.and_true]
theorem refcmd_any (k:Int)(v:Value)(ss:List ByteArray)(val wd:ByteArray)(ft:Bool)(id:Int)(w:World)(h:StrsAt w v ss)(hv:val.size≤maxLen):Calls Tryz.prog 139 #[cmdV6 k v val wd ft id] w fun e w'=>e= .returned (.bool (cmdB k ss val))∧Below w.heap.size w w':=by
 unfold cmdV6;have hB:Below w.heap.size w (w.alloc (.cells #[.int .i64 k,v,.string val,.string wd,.bool ft,.int .i64 id] 36)):=(Below.refl _ _).alloc (Nat.le_refl _) _;have h':=h.later hB;have HBB:Hid (Below w.heap.size w (w.alloc (.cells #[.int .i64 k,v,.string val,.string wd,.bool ft,.int .i64 id] 36))):=hB;clear hB h;obtain⟨hf,sm,hsz⟩:=h';have HSZ:Hid (∀s∈ss,s.size≤maxLen):=hsz;have HBad:Hid (∀i s,ss[i]?=some s→keyB s=false→cmdB k ss val=false):=fun i s a b=>cmdB_bad a b
 have HGood:Hid ((ss.take ss.length).all keyB=true→cmdB k ss val=if k=1 then withinB 1 ss.length 4&&val.toList.isEmpty else if k=2 then withinB 1 ss.length 1&&decide ((val.size:Int)≤40)else if k=3 then withinB 1 ss.length 1&&val.toList.isEmpty else false):=by
  intro hh;unfold cmdB;rw[keysB_len hh,keysB_len hh]
 clear hsz;obtain⟨vv,n,hvv,hn⟩:∃(a:Option Addr) (c:Nat),v= .slice a ss.length c∧∀(i:Nat) (s:ByteArray),ss[i]?=some s→∃b o,a=some ⟨b,o,none⟩∧(w.alloc (.cells #[.int .i64 k,v,.string val,.string wd,.bool ft,.int .i64 id] 36)).cell? ⟨b,o+i,none⟩=some (.string s):=by
  rcases hf with⟨b,o,c,rfl,_,hc⟩|⟨a,rfl,rfl⟩
  ·exact⟨_,c,rfl,fun i s hs=>⟨b,o,rfl,hc i s hs⟩⟩
  ·exact⟨a,0,rfl,fun i s hs=>by simp at hs⟩
 subst hvv;have HC:Hid (∀(i:Nat) (s:ByteArray),ss[i]?=some s→∃b o,vv=some ⟨b,o,none⟩∧(w.alloc (.cells #[.int .i64 k,.slice vv ss.length n,.string val,.string wd,.bool ft,.int .i64 id] 36)).cell? ⟨b,o+i,none⟩=some (.string s)):=hn;clear hn hf;generalize hL:ss.length=L at*;have HL:Hid (ss.length=L):=hL;clear hL;generalize hCB:cmdB k ss val=CB at*;clear hCB;go_enter Tryz.func139,Tryz.ntmps139;go_wp2;go_loop [3] (fun i=>∃j:Nat,j≤L∧i= .int .i64 j∧Hid ((ss.take j).all keyB=true)) (fun i=>L-(intOf i).toNat)
 case atStart=>exact⟨0,Nat.zero_le _,rfl,(by show _=_;simp)⟩
 case round=>
  obtain⟨j,hj,rfl,hall⟩:=hrel;by_cases hlt:j<L
  ·obtain⟨s,hs⟩:∃s,ss[j]?=some s:=⟨ss[j]'(by rw[HL.out];exact hlt),List.getElem?_eq_getElem _⟩
   obtain⟨b,o,rfl,hcell⟩:=HC.out j s hs;have hm:=HSZ.out s (List.mem_of_getElem? hs);have HS:Hid (ss[j]?=some s):=hs;clear hs;cases hb:keyB s with
   |true=>
    go_wp2_with (go_at_call 137;refine(refkey_any _ _ hm).mono ?_;rintro e w' ⟨rfl,rfl⟩)
    go_round
    case rel=>
     refine⟨j+1,by omega,by go_num,?_⟩;show _=_;rw[List.take_add_one,HS.out,List.all_append,hall.out];simp[hb]
    case measure=>simp[intOf];omega
   |false=>
    have HH:Hid (CB=false):=HBad.out j s HS.out hb;go_wp2_with (go_at_call 137;refine(refkey_any _ _ hm).mono ?_;rintro e w' ⟨rfl,hw⟩;subst hw)
    go_ret;exact⟨ret_bool HH.out.symm,HBB.out⟩
  ·have hj2:j=L:=by omega
   subst hj2;have HH:=HGood.out hall.out;have hv':=hv;unfold maxLen at hv;by_cases k1:k=1
   ·subst k1;have H2:Hid (CB=(withinB 1 j 4&&val.toList.isEmpty)):=by show _=_;rw[HH];simp
    clear HH;by_cases g1:1≤j
    ·by_cases g2:j≤4
     ·go_wp2;go_ret;exact⟨ret_bool (by rw[H2.out,withinB_t (by omega) (by omega)];simp),HBB.out⟩
     ·have g2':¬(j:Int)≤4:=by omega
      go_wp2;go_ret;exact⟨ret_bool (by rw[H2.out,withinB_f (by omega)];simp),HBB.out⟩
    ·have g1':¬(1:Int)≤j:=by omega
     go_wp2;go_ret;exact⟨ret_bool (by rw[H2.out,withinB_f (by omega)];simp),HBB.out⟩
   ·by_cases k2:k=2
    ·subst k2;have H2:Hid (CB=(withinB 1 j 1&&decide ((val.size:Int)≤40))):=by show _=_;rw[HH];simp
     clear HH;by_cases g1:j=1
     ·subst g1;go_wp2;go_ret;exact⟨ret_bool (by rw[H2.out,withinB_t (by omega) (by omega)];simp),HBB.out⟩
     ·have g1':((j:Int)==1)=false:=by rw[beq_eq_false_iff_ne];omega
      go_wp2;go_ret;exact⟨ret_bool (by rw[H2.out,withinB_f (by omega)];simp),HBB.out⟩
    ·by_cases k3:k=3
     ·subst k3;have H2:Hid (CB=(withinB 1 j 1&&val.toList.isEmpty)):=by show _=_;rw[HH];simp
      clear HH;by_cases g1:j=1
      ·subst g1;go_wp2;go_ret;exact⟨ret_bool (by rw[H2.out,withinB_t (by omega) (by omega)];simp),HBB.out⟩
      ·have g1':((j:Int)==1)=false:=by rw[beq_eq_false_iff_ne];omega
       go_wp2;go_ret;exact⟨ret_bool (by rw[H2.out,withinB_f (by omega)];simp),HBB.out⟩
     ·have H2:Hid (CB=false):=by show _=_;rw[HH];simp[k1,k2,k3]
      clear HH;have q1:(k==1)=false:=by simpa using k1
      have q2:(k==2)=false:=by simpa using k2
      have q3:(k==3)=false:=by simpa using k3
      go_wp2;go_ret;exact⟨ret_bool H2.out.symm,HBB.out⟩
set_option maxHeartbeats 1000000
theorem conv7 (w:World)(b0 b1 b2 b3 b4 b5 b6:Int):
 (convert 80 9 (.slice (some ⟨w.heap.size,0,none⟩) 7 7)).run Tryz.prog (w.alloc (.cells #[.int .u8 b0,.int .u8 b1,.int .u8 b2,.int .u8 b3,.int .u8 b4,.int .u8 b5,.int .u8 b6] 5))=
  .ok (.string (strOfNums [b0,b1,b2,b3,b4,b5,b6])) (w.alloc (.cells #[.int .u8 b0,.int .u8 b1,.int .u8 b2,.int .u8 b3,.int .u8 b4,.int .u8 b5,.int .u8 b6] 5)):=
 run_convert_bytes_arg (P:=Tryz.prog) _ 80 5 Tryz.underlying80 Tryz.underlying5 w.heap.size 0 7 7 [b0,b1,b2,b3,b4,b5,b6] rfl (fun i hi=>by
  have h7:i=0∨i=1∨i=2∨i=3∨i=4∨i=5∨i=6:=by omega
  rcases h7 with rfl|rfl|rfl|rfl|rfl|rfl|rfl<;>simp) 9 Tryz.underlying9
def headB (a b c size id:Int):ByteArray:=strOfNums [a,b,c,size % 256,size / 256,id % 256,id / 256]
theorem frame_any (a b c size id:Int)(w:World)(ha:0≤a∧a<256)(hb:0≤b∧b<256)(hc:0≤c∧c<256)(hs:0≤size∧size<65536)(hi:0≤id∧id<65536):Calls Tryz.prog 180 #[.int .i64 a,.int .i64 b,.int .i64 c,.int .i64 size,.int .i64 id] w fun e w'=>e= .returned (.string (headB a b c size id))∧Below w.heap.size w w':=by
 have hcv:=conv7;obtain⟨a1,a2⟩:=ha;obtain⟨b1,b2⟩:=hb;obtain⟨c1,c2⟩:=hc;obtain⟨s1,s2⟩:=hs;obtain⟨i1,i2⟩:=hi;go_enter Tryz.func180,Tryz.ntmps180;go_wp2;go_ret;exact⟨rfl,(Below.refl _ _).alloc (Nat.le_refl _) _⟩
theorem head_any (a b c size id:Int)(w:World)(ha:0≤a∧a<256)(hb:0≤b∧b<256)(hc:0≤c∧c<256)(hs:0≤size∧size<65536)(hi:0≤id∧id<65536):Calls Tryz.prog 141 #[.int .i64 a,.int .i64 b,.int .i64 c,.int .i64 size,.int .i64 id] w fun e w'=>e= .returned (.string (headB a b c size id))∧Below w.heap.size w w':=by
 have hcv:=conv7;obtain⟨a1,a2⟩:=ha;obtain⟨b1,b2⟩:=hb;obtain⟨c1,c2⟩:=hc;obtain⟨s1,s2⟩:=hs;obtain⟨i1,i2⟩:=hi;go_enter Tryz.func141,Tryz.ntmps141;go_wp2;go_ret;exact⟨rfl,(Below.refl _ _).alloc (Nat.le_refl _) _⟩
end Go.Proofs.YtlonjggfnleolaaGreatDoor
namespace Go.Proofs
open Go.Shelf
def Tryz.lays169_ren:Go.Shelf.Ren:=⟨fun|169=>57|n=>n,fun|70=>121|9=>9|0=>0|72=>123|37=>80|127=>173|3=>3|5=>5|n=>n,fun|n=>n⟩
theorem Tryz.lays169:Go.Proofs.Lays.n169 Tryz.prog Tryz.lays169_ren:={
 mixed:=by kernel_rfl
 f169:=Tryz.func57.trans (congrArg some (by kernel_rfl))
 t0:=Tryz.underlying0
 a0:=Tryz.isAgg0
 z0:=Tryz.sizeOf0
 v0:=Tryz.zeroValue0
 t3:=Tryz.underlying3
 a3:=Tryz.isAgg3
 z3:=Tryz.sizeOf3
 v3:=Tryz.zeroValue3
 t9:=Tryz.underlying9
 a9:=Tryz.isAgg9
 z9:=Tryz.sizeOf9
 v9:=Tryz.zeroValue9
 t37:=Tryz.underlying80
 a37:=Tryz.isAgg80
 z37:=Tryz.sizeOf80
 v37:=Tryz.zeroValue80
 t70:=Tryz.underlying121
 a70:=Tryz.isAgg121
 z70:=Tryz.sizeOf121
 v70:=Tryz.zeroValue121
 t72:=Tryz.underlying123
 a72:=Tryz.isAgg123
 z72:=Tryz.sizeOf123
 v72:=Tryz.zeroValue123
 t127:=Tryz.underlying173
 a127:=Tryz.isAgg173
 z127:=Tryz.sizeOf173
 v127:=Tryz.zeroValue173}
theorem Tryz.Builder_Extra_169:Builder.Extra Tryz.prog Tryz.lays169_ren:={
 sizeBuilder:=by kernel_rfl
 liesBuilder:=by kernel_rfl
 t5:=Tryz.underlying5
 a5:=Tryz.isAgg5
 z5:=Tryz.sizeOf5
 v5:=Tryz.zeroValue5
 infoByte:=by kernel_rfl
 cellsByte:=by kernel_rfl
 sizeByte:=by kernel_rfl
 neB5:=by decide}
open Go.RowKit in
theorem Tryz.Builder_String (B b:Nat)(l:List UInt8)(w:World)(h:Lib.IsBuilder 123 5 B b (Lib.byteCells l) w)(h0:l≠[]):
 Calls Tryz.prog 57 #[.pointer (some ⟨b,0,none⟩)] w fun e w'=>e= .returned (.string ⟨l.toArray⟩)∧Below B w w':=Any.Builder_String Tryz.lays169 Tryz.Builder_Extra_169 B b l w h h0
open Go.RowKit in
theorem Tryz.Builder_String_empty (B b:Nat)(w:World)(h:Lib.IsBuilder 123 5 B b [] w)(hBw:B≤w.heap.size):
 Calls Tryz.prog 57 #[.pointer (some ⟨b,0,none⟩)] w fun e w'=>e= .returned (.string ⟨#[]⟩)∧Below B w w':=Any.Builder_String_empty Tryz.lays169 Tryz.Builder_Extra_169 B b w h hBw
open Go.RowKit in
theorem Tryz.Builder_String_any (B b:Nat)(l:List UInt8)(w:World)(h:Lib.IsBuilder 123 5 B b (Lib.byteCells l) w)(hBw:B≤w.heap.size):
 Calls Tryz.prog 57 #[.pointer (some ⟨b,0,none⟩)] w fun e w'=>e= .returned (.string ⟨l.toArray⟩)∧Below B w w':=Any.Builder_String_any Tryz.lays169 Tryz.Builder_Extra_169 B b l w h hBw
def Tryz.lays156_ren:Go.Shelf.Ren:=⟨fun|156=>214|165=>220|166=>128|169=>57|240=>159|241=>225|276=>169|277=>228|n=>n,fun|31=>34|9=>9|3=>3|4=>4|0=>0|20=>20|72=>123|76=>213|70=>121|37=>80|75=>212|127=>173|164=>269|5=>5|80=>130|n=>n,fun|n=>n⟩
theorem Tryz.lays156:Go.Proofs.Lays.n156 Tryz.prog Tryz.lays156_ren:={
 mixed:=by kernel_rfl
 f156:=Tryz.func214.trans (congrArg some (by kernel_rfl))
 f165:=Tryz.func220.trans (congrArg some (by kernel_rfl))
 f166:=Tryz.func128.trans (congrArg some (by kernel_rfl))
 f169:=Tryz.func57.trans (congrArg some (by kernel_rfl))
 f240:=Tryz.func159.trans (congrArg some (by kernel_rfl))
 f241:=Tryz.func225.trans (congrArg some (by kernel_rfl))
 f276:=Tryz.func169.trans (congrArg some (by kernel_rfl))
 f277:=Tryz.func228.trans (congrArg some (by kernel_rfl))
 t0:=Tryz.underlying0
 a0:=Tryz.isAgg0
 z0:=Tryz.sizeOf0
 v0:=Tryz.zeroValue0
 t3:=Tryz.underlying3
 a3:=Tryz.isAgg3
 z3:=Tryz.sizeOf3
 v3:=Tryz.zeroValue3
 t4:=Tryz.underlying4
 a4:=Tryz.isAgg4
 z4:=Tryz.sizeOf4
 v4:=Tryz.zeroValue4
 t9:=Tryz.underlying9
 a9:=Tryz.isAgg9
 z9:=Tryz.sizeOf9
 v9:=Tryz.zeroValue9
 t20:=Tryz.underlying20
 a20:=Tryz.isAgg20
 z20:=Tryz.sizeOf20
 v20:=Tryz.zeroValue20
 t31:=Tryz.underlying34
 a31:=Tryz.isAgg34
 z31:=Tryz.sizeOf34
 v31:=Tryz.zeroValue34
 t37:=Tryz.underlying80
 a37:=Tryz.isAgg80
 z37:=Tryz.sizeOf80
 v37:=Tryz.zeroValue80
 t70:=Tryz.underlying121
 a70:=Tryz.isAgg121
 z70:=Tryz.sizeOf121
 v70:=Tryz.zeroValue121
 t72:=Tryz.underlying123
 a72:=Tryz.isAgg123
 z72:=Tryz.sizeOf123
 v72:=Tryz.zeroValue123
 t75:=Tryz.underlying212
 a75:=Tryz.isAgg212
 z75:=Tryz.sizeOf212
 v75:=Tryz.zeroValue212
 t76:=Tryz.underlying213
 a76:=Tryz.isAgg213
 z76:=Tryz.sizeOf213
 v76:=Tryz.zeroValue213
 t127:=Tryz.underlying173
 a127:=Tryz.isAgg173
 z127:=Tryz.sizeOf173
 v127:=Tryz.zeroValue173
 t164:=Tryz.underlying269
 a164:=Tryz.isAgg269
 z164:=Tryz.sizeOf269
 v164:=Tryz.zeroValue269}
theorem Tryz.Builder_Extra_156:Builder.Extra Tryz.prog Tryz.lays156_ren:={
 sizeBuilder:=by kernel_rfl
 liesBuilder:=by kernel_rfl
 t5:=Tryz.underlying5
 a5:=Tryz.isAgg5
 z5:=Tryz.sizeOf5
 v5:=Tryz.zeroValue5
 infoByte:=by kernel_rfl
 cellsByte:=by kernel_rfl
 sizeByte:=by kernel_rfl
 neB5:=by decide}
open Go.RowKit in
theorem Tryz.strings_Join_none (a:Option Addr)(c:Nat)(sep:ByteArray)(w:World):
 Calls Tryz.prog 214 #[.slice a 0 c,.string sep] w fun e w'=>e= .returned (.string ⟨#[]⟩)∧w'=w:=Any.strings_Join_none Tryz.lays156 Tryz.Builder_Extra_156 a c sep w
open Go.RowKit in
theorem Tryz.strings_Join (bk o c:Nat)(xs:List ByteArray)(sep:ByteArray)(w:World)(hcells:∀(j:Nat) x,xs[j]?=some x→w.cell? ⟨bk,o+j,none⟩=some (.string x))(hbk:bk<w.heap.size)(hN:xs.length≤140737488355328)(hcap:xs.length≤c)(hlen:(Lib.join (xs.map (·.data.toList)) sep.data.toList).length≤140737488355328):
 Calls Tryz.prog 214 #[.slice (some ⟨bk,o,none⟩) xs.length c,.string sep] w fun e w'=>e= .returned (.string ⟨(Lib.join (xs.map (·.data.toList)) sep.data.toList).toArray⟩)∧Below w.heap.size w w':=Any.strings_Join Tryz.lays156 Tryz.Builder_Extra_156 bk o c xs sep w hcells hbk hN hcap hlen
open Go.RowKit in
theorem Tryz.writeString (B b:Nat)(bs:List Value)(s:ByteArray)(w:World)(h:Lib.IsBuilder 123 5 B b bs w)(hlen:bs.length+s.size≤140737488355328)(hBw:B≤w.heap.size):
 Calls Tryz.prog 128 #[.pointer (some ⟨b,0,none⟩),.string s] w fun e w'=>e= .returned (.tuple #[.int .i64 s.size,.nilIface])∧(Lib.BuilderAt 123 5 B b (.pointer (some ⟨b,0,none⟩)) (bs++Lib.strCells s) w'∧Below B w w'):=
 Any.Builder_WriteString {Tryz.lays156 with} Tryz.Builder_Extra_156 B b bs s w h hlen hBw
end Go.Proofs
namespace Go.Proofs.YtlonjggfnleolaaGreatDoor
open Go.RowKit
set_option linter.unusedVariables false
set_option maxHeartbeats 2000000
set_option maxRecDepth 20000
variable {s:ByteArray}{ss:List ByteArray}
theorem hide3 {p:Prop}(h:p):Hid p:=h
theorem emptyB (h:s.toList.isEmpty=true):s.size=0:=by
 rw[ByteArray.toList_eq]at h;have:s.data.toList=[]:=by simpa using h
 have h2:s.data.toList.length=0:=by rw[this];rfl
 simpa using h2
structure Right (k:Int)(ss:List ByteArray)(val:ByteArray):Prop where
 kind:k=1∨k=2∨k=3
 len1:1≤ss.length
 len4:ss.length≤4
 one:k≠1→ss.length=1
 keys:∀s∈ss,s.size≤8
 val40:val.size≤40
 val0:k≠2→val.size=0
theorem keyB_size (h:keyB s=true):s.size≤8:=by
 simp only[keyB,withinB,Bool.and_eq_true,decide_eq_true_eq]at h;omega
theorem keysB_get {m:Int}(h:keysB ss m=true):1≤ss.length∧(ss.length:Int)≤m∧∀s∈ss,s.size≤8:=by
 simp only[keysB,withinB,Bool.and_eq_true,decide_eq_true_eq,List.all_eq_true]at h;exact⟨by omega,h.1.2,fun s hs=>keyB_size (h.2 s hs)⟩
theorem right_of {k:Int}{val:ByteArray}(h:cmdB k ss val=true):Right k ss val:=by
 unfold cmdB at h;split at h
 ·rename_i h1;simp only[Bool.and_eq_true]at h;obtain⟨a,b,c⟩:=keysB_get h.1;have:=emptyB h.2;exact⟨.inl h1,a,by omega,fun n=>absurd h1 n,c,by omega,fun _=>this⟩
 ·split at h
  ·rename_i h1 h2;simp only[Bool.and_eq_true,decide_eq_true_eq]at h;obtain⟨a,b,c⟩:=keysB_get h.1;exact⟨.inr (.inl h2),a,by omega,fun _=>by omega,c,by omega,fun n=>absurd h2 n⟩
  ·split at h
   ·rename_i h1 h2 h3;simp only[Bool.and_eq_true]at h;obtain⟨a,b,c⟩:=keysB_get h.1;have:=emptyB h.2;exact⟨.inr (.inr h3),a,by omega,fun _=>by omega,c,by omega,fun _=>this⟩
   ·cases h
theorem beq1 (n:Nat):((n:Int)==1)=decide (n=1):=by
 by_cases h:n=1
 ·simp[h]
 ·have:¬(n:Int)=1:=by omega
  simp[h,this]
def frSayB (k:Int)(n:Nat)(id:Int):Bool:=decide (0≤id)&&decide (id≤65535)&&(decide (k≠1) || decide (n=1))
theorem frAsk (k:Int)(b o c:Nat)(key val wd:ByteArray)(ft:Bool)(cid id:Int)(w:World)(hk:k=1∨k=2∨k=3)(hb:b<w.heap.size)(hc:w.cell? ⟨b,o,none⟩=some (.string key))(hks:key.size≤8)(hv:val.size≤40)(h1:0≤id)(h2:id≤65535):Calls Tryz.prog 170 #[.agg #[],cmdV6 k (.slice (some ⟨b,o,none⟩) 1 c) val wd ft cid,.int .i64 id] w fun e w'=>e= .returned (.string (headB 1 k key.size val.size id++key++val))∧Below w.heap.size w w':=by
 unfold cmdV6;have k1:0≤k∧k<256:=by omega
 have HF:=fun W=>frame_any 1 k key.size val.size id W (by omega) k1 (by omega) (by omega) (by omega)
 have HH:Hid (∀W:World,Calls Tryz.prog 180 #[.int .i64 1,.int .i64 k,.int .i64 key.size,.int .i64 val.size,.int .i64 id] W fun e w'=>e= .returned (.string (headB 1 k key.size val.size id))∧Below W.heap.size W w'):=HF;have hsz:(headB 1 k key.size val.size id).size=7:=by unfold headB;rw[strOfNums_size];rfl
 have g1:¬9223372036854775807<7+key.size:=by omega
 have g2:¬9223372036854775807<7+key.size+val.size:=by omega
 clear HF k1 hk;go_enter Tryz.func170,Tryz.ntmps170;go_wp2;go_region_held3 (fun w'=>w'.cell? ⟨w.heap.size+1,0,none⟩=some (.int .i64 k)∧w'.cell? ⟨w.heap.size+1,2,none⟩=some (.string val)) (go_keep)
  (first|(go_at_call 180;refine(HH.out _).mono ?_;rintro e w5 ⟨rfl,hB5⟩;have hS5:=(hB5.cell (p:=⟨w.heap.size+1,0,none⟩) (by simp));have hS6:=(hB5.cell (p:=⟨w.heap.size+1,2,none⟩) (by simp));have HB5:=hide3 hB5;clear hB5))
 go_wp2;go_ret;exact⟨rfl,((((Below.refl _ _).alloc (Nat.le_refl _) _).alloc (by simp) _).drew).trans (HB5.out.mono (by simp[Nat.le_add_right,Nat.add_assoc]))⟩
def nameB (k:Int):ByteArray:=if k=1 then⟨#[103,101,116]⟩else if k=2 then⟨#[115,101,116]⟩else⟨#[100,101,108]⟩
def joinB (ss:List ByteArray):ByteArray:=⟨(Lib.join (ss.map (·.data.toList)) [32]).toArray⟩
theorem len_size (s:ByteArray):s.data.toList.length=s.size:=by simp
def sizedB (s:ByteArray):ByteArray:=dec100 s.size++⟨#[10]⟩++s++⟨#[10]⟩
def linesAskB (k:Int)(ss:List ByteArray)(val:ByteArray):ByteArray:=
 if k=2 then nameB k++⟨#[32]⟩++joinB ss++⟨#[32]⟩++sizedB val else nameB k++⟨#[32]⟩++joinB ss++⟨#[10]⟩
theorem sized_any' (s:ByteArray)(w:World)(hs:s.size<100):Calls Tryz.prog 215 #[.string s] w fun e w'=>e= .returned (.string (sizedB s))∧w'=w:=sized_any s w hs
theorem sizedB_size {s:ByteArray}(h:s.size≤40):(sizedB s).size≤44:=by
 have:=dec100_size s.size;have e:(ByteArray.mk #[10]).size=1:=rfl;unfold sizedB;rw[ByteArray.size_append,ByteArray.size_append,ByteArray.size_append];omega
end Go.Proofs.YtlonjggfnleolaaGreatDoor
