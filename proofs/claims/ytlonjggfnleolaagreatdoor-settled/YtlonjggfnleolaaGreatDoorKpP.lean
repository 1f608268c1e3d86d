import Derived.Test.YtlonjggfnleolaaGreatDoorRefA
import Derived.Test.YtlonjggfnleolaaGreatDoorDecode
namespace Go.Proofs.YtlonjggfnleolaaGreatDoor
open Go.RowKit
set_option linter.unusedVariables false
set_option maxHeartbeats 2000000
set_option maxRecDepth 20000
variable {s t:ByteArray}
def endI (l:List UInt8):Int:=if 0≤Go.Lib.indexByte l 10 then Go.Lib.indexByte l 10+1 else-1
theorem kend_any (s:ByteArray)(w:World)(hs:s.size≤140737488355328):Calls Tryz.prog 96 #[.string s] w fun e w'=>e= .returned (.int .i64 (endI s.data.toList))∧w'=w:=by
 go_enter Tryz.func96,Tryz.ntmps96;go_wp2;go_loop [3] (fun i=>∃k:Nat,k≤s.size∧i= .int .i64 k∧Hid (¬0≤Go.Lib.indexByte (s.data.toList.take k) 10)) (fun i=>s.size-(intOf i).toNat)
 case atStart=>exact⟨0,Nat.zero_le _,rfl,(by show¬0≤_;rw[List.take_zero,ib_nil];decide)⟩
 case round=>
  obtain⟨k,hk,rfl,hno⟩:=hrel;by_cases hlt:k<s.size
  ·by_cases h10:s[k]=10
   ·have HR:Hid (endI s.data.toList=(k:Int)+1):=by
     have e:=ib_at hlt h10 hno.out;show endI s.data.toList=(k:Int)+1;unfold endI;rw[e,if_pos (by omega)]
    go_wp2;go_ret;exact⟨ret_int HR.out.symm,rfl⟩
   ·have HN:=hide' (ib_no hlt h10 hno.out);have hb:=u8_ne h10;have hb':((s[k].toNat:Int)==10)=false:=hb;go_wp2;go_round
    case rel=>exact⟨k+1,by omega,by go_num,HN⟩
    case measure=>simp[intOf];omega
  ·have hk2:k=s.size:=by omega
   subst hk2;have HR:Hid (endI s.data.toList= -1):=by
    have h:=hno.out;rw[List.take_of_length_le (by simp)]at h;show endI s.data.toList= -1;unfold endI;rw[if_neg h]
   go_wp2;go_ret;exact⟨ret_int HR.out.symm,rfl⟩
def lastF (n:Nat)(b:UInt8):Nat:=if 48≤b.toNat∧b.toNat≤57 then 10*n+(b.toNat-48)else if b=10 then n else 0
def lastL (l:List UInt8):Nat:=l.foldl lastF 0
theorem lastL_snoc (l:List UInt8)(b:UInt8):lastL (l++[b])=lastF (lastL l) b:=by unfold lastL;rw[List.foldl_append];rfl
theorem lastL_lt:∀(n:Nat) (l:List UInt8),l.length=n→lastL l<10 ^ n:=by
 intro n;induction n with
 |zero=>intro l h;rw[List.length_eq_zero_iff.1 h];decide
 |succ n ih=>
  intro l h;obtain⟨l',b,rfl⟩:∃l' b,l=l'++[b]:=⟨l.dropLast,l.getLast (by intro e;rw[e]at h;cases h),(List.dropLast_concat_getLast _).symm⟩
  rw[List.length_append]at h;have h2:=ih l' (by simpa using h);rw[lastL_snoc,Nat.pow_succ];unfold lastF;split
  ·omega
  ·split<;>omega
theorem lastL_18 {l:List UInt8}(h:l.length≤17):lastL l<100000000000000000:=by
 have h1:=lastL_lt l.length l rfl;have h2:10 ^ l.length≤10 ^ 17:=Nat.pow_le_pow_right (by omega) h;have h3:(10:Nat) ^ 17=100000000000000000:=by decide
 omega
theorem klast_any (s:ByteArray)(w:World)(hs:s.size≤18):Calls Tryz.prog 97 #[.string s] w fun e w'=>e= .returned (.int .i64 (lastL s.data.toList:Int))∧w'=w:=by
 go_enter Tryz.func97,Tryz.ntmps97;go_wp2;go_loop [3,4] (fun n i=>∃k m:Nat,k≤s.size∧i= .int .i64 k∧n= .int .i64 (m:Int)∧Hid (m=lastL (s.data.toList.take k))) (fun _ i=>s.size-(intOf i).toNat)
 case atStart=>exact⟨0,0,Nat.zero_le _,rfl,rfl,(by show 0=_;rw[List.take_zero];rfl)⟩
 case round=>
  obtain⟨k,m,hk,rfl,rfl,hm⟩:=hrel;by_cases hlt:k<s.size
  ·have hm17:m<100000000000000000:=by rw[hm.out];exact lastL_18 (by rw[List.length_take];omega)
   have HS:Hid (lastL (s.data.toList.take (k+1))=lastF m s[k]):=by
    have e:lastL (s.data.toList.take (k+1))=lastF m s[k]:=by rw[take_snoc s k hlt,lastL_snoc,hm.out]
    exact e
   have hb:=s[k].toNat_lt;unfold lastF at HS;by_cases h1:48≤s[k].toNat
   ·by_cases h2:s[k].toNat≤57
    ·rw[if_pos ⟨h1,h2⟩]at HS;have h1':(48:Int)≤(s[k].toNat:Int):=by omega
     have h2':(s[k].toNat:Int)≤57:=by omega
     go_wp2;go_round
     case rel=>exact⟨k+1,10*m+(s[k].toNat-48),by omega,by go_num,by go_num,HS.out.symm⟩
     case measure=>simp[intOf];omega
    ·rw[if_neg (fun h=>h2 h.2)]at HS;have h1':(48:Int)≤(s[k].toNat:Int):=by omega
     have h2':¬(s[k].toNat:Int)≤57:=by omega
     have h10:¬s[k]=10:=fun e=>by rw[e]at h1;exact absurd h1 (by decide)
     rw[if_neg h10]at HS;have hb':((s[k].toNat:Int)==10)=false:=u8_ne h10;go_wp2;go_round
     case rel=>exact⟨k+1,0,by omega,by go_num,by go_num,HS.out.symm⟩
     case measure=>simp[intOf];omega
   ·rw[if_neg (fun h=>h1 h.1)]at HS;have h1':¬(48:Int)≤(s[k].toNat:Int):=by omega
    by_cases h10:s[k]=10
    ·rw[if_pos h10]at HS;have hb':(s[k].toNat:Int)=10:=by rw[h10];rfl
     go_wp2;go_round
     case rel=>exact⟨k+1,m,by omega,by go_num,by go_num,HS.out.symm⟩
     case measure=>simp[intOf];omega
    ·rw[if_neg h10]at HS;have hb':((s[k].toNat:Int)==10)=false:=u8_ne h10;go_wp2;go_round
     case rel=>exact⟨k+1,0,by omega,by go_num,by go_num,HS.out.symm⟩
     case measure=>simp[intOf];omega
  ·have hk2:k=s.size:=by omega
   subst hk2;have HR:Hid (m=lastL s.data.toList):=by
    have e:=hm.out;rw[List.take_of_length_le (by simp)]at e;exact e
   go_wp2;go_ret;exact⟨ret_int (by rw[HR.out]),rfl⟩
def begB (s t:ByteArray):Bool:=t.data.toList.isPrefixOf s.data.toList
theorem ext_take (s:ByteArray)(n:Nat):(s.extract 0 n).data.toList=s.data.toList.take n:=by
 simp
theorem begB_eq (h:t.size≤s.size):((s.extract 0 t.size).toList==t.toList)=begB s t:=by
 rw[Bool.eq_iff_iff,beq_iff_eq];unfold begB;rw[List.isPrefixOf_iff_prefix,List.prefix_iff_eq_take,ByteArray.toList_eq,ByteArray.toList_eq,ext_take,Array.length_toList];exact eq_comm
theorem begB_short (h:s.size<t.size):begB s t=false:=by
 cases hb:begB s t with
 |false=>rfl
 |true=>
  unfold begB at hb;rw[List.isPrefixOf_iff_prefix]at hb;have:=hb.length_le;simp at this;omega
theorem kbegins_any (s t:ByteArray)(w:World)(hs:s.size≤140737488355328):Calls Tryz.prog 27 #[.string s,.string t] w fun e w'=>e= .returned (.bool (begB s t))∧w'=w:=by
 by_cases hl:t.size≤s.size
 ·have hl':(t.size:Int)≤(s.size:Int):=by omega
  have HB:=hide' (begB_eq hl);go_enter Tryz.func27,Tryz.ntmps27;go_wp2;rw[HB.out];go_ret;exact⟨rfl,rfl⟩
 ·have hl':¬(t.size:Int)≤(s.size:Int):=by omega
  have HB:=hide' (begB_short (s:=s) (t:=t) (by omega));go_enter Tryz.func27,Tryz.ntmps27;go_wp2;go_ret;exact⟨by rw[HB.out];rfl,rfl⟩
set_option maxHeartbeats 2000000
set_option maxRecDepth 20000
variable {L:List UInt8}{b:UInt8}
def SzOk (d:Int)(t:List UInt8):Prop:=1≤t.length∧∀(r:List UInt8) (w:World),(t++r).length≤100000000000→Calls Tryz.prog 65 #[.int .i64 d,.string (mkB (t++r))] w fun e w'=>e= .returned (.int .i64 (t.length:Int))∧(d≠2→w'=w)∧Below w.heap.size w w'
theorem endI_at {r:List UInt8}(h:∀b∈L,b≠10):endI (L++10::r)=((L.length+1:Nat):Int):=by
 unfold endI;rw[ib_hit L r h,if_pos (by omega)];omega
theorem mk_size (l:List UInt8):(mkB l).size=l.length:=by simp[mkB,ByteArray.size]
theorem mk_take (l:List UInt8)(n:Nat):(mkB l).extract 0 n=mkB (l.take n):=by
 have h:((mkB l).extract 0 n).data.toList=l.take n:=by rw[ext_take];simp[mkB]
 rw[←mkB_toList ((mkB l).extract 0 n),h]
theorem mk_drop (l:List UInt8)(n:Nat):(mkB l).extract n (mkB l).size=mkB (l.drop n):=by
 have h:((mkB l).extract n (mkB l).size).data.toList=l.drop n:=by
  simp[mkB,ByteArray.size];exact List.take_of_length_le (by simp)
 rw[←mkB_toList ((mkB l).extract n (mkB l).size),h]
theorem head_no {l:List UInt8}{c:UInt8}{cs:List UInt8}(h:b≠c):begB (mkB (b::l)) (mkB (c::cs))=false:=by
 show List.isPrefixOf (c::cs) (b::l)=false;rw[List.isPrefixOf];have:(c==b)=false:=by simpa using fun e=>h e.symm
 rw[this];rfl
theorem sz_plain1 (hL:∀x∈b::L,x≠10)(hb:b≠118):SzOk 1 (b::L++[10]):=by
 refine⟨by simp,fun r w hl=>?_⟩;have hE:=kend_any (mkB (b::L++[10]++r)) w (by rw[mk_size];omega);have e1:(mkB (b::L++[10]++r)).data.toList=(b::L)++10::r:=by simp[mkB]
 rw[e1,endI_at hL]at hE;have hB:=kbegins_any (mkB (b::L++[10]++r)) ⟨#[118,97,108,117,101,32]⟩ w (by rw[mk_size];omega);have e2:begB (mkB (b::L++[10]++r)) ⟨#[118,97,108,117,101,32]⟩=false:=head_no hb;rw[e2]at hB;have hn:(b::L++[10]).length=(b::L).length+1:=by simp
 rw[hn];generalize hnn:(b::L).length+1=n at*;have hn1:¬(n:Int)<0:=by omega
 have HE:=hide' hE;have HB:=hide' hB;generalize mkB (b::L++[10]++r)=S at*;clear hE hB e1 e2 hn hnn hl hL hb;go_enter Tryz.func65,Tryz.ntmps65;go_wp2_with fail
 go_at_call 96;refine HE.out.mono ?_;rintro e w1 ⟨rfl,hw1⟩;subst hw1;go_wp2_with fail
 go_at_call 27;refine HB.out.mono ?_;rintro e w2 ⟨rfl,hw2⟩;subst hw2;go_wp2_with fail
 go_ret;exact⟨rfl,fun _=>rfl,Below.refl _ _⟩
theorem sz_plain3 (hL:∀x∈b::L,x≠10)(hb:b≠36)(hb2:b≠42):SzOk 3 (b::L++[10]):=by
 refine⟨by simp,fun r w hl=>?_⟩;have hE:=kend_any (mkB (b::L++[10]++r)) w (by rw[mk_size];omega);have e1:(mkB (b::L++[10]++r)).data.toList=(b::L)++10::r:=by simp[mkB]
 rw[e1,endI_at hL]at hE;have hB:=kbegins_any (mkB (b::L++[10]++r)) ⟨#[36,45,49]⟩ w (by rw[mk_size];omega);have e2:begB (mkB (b::L++[10]++r)) ⟨#[36,45,49]⟩=false:=head_no hb;rw[e2]at hB;have hn:(b::L++[10]).length=(b::L).length+1:=by simp
 have hsz:0<(mkB (b::L++[10]++r)).size:=by rw[mk_size];simp
 have h0:(mkB (b::L++[10]++r))[0]=b:=rfl;rw[hn];generalize hnn:(b::L).length+1=n at*;have hn1:¬(n:Int)<0:=by omega
 have HE:=hide' hE;have HB:=hide' hB;generalize mkB (b::L++[10]++r)=S at*;have hb':((S[0].toNat:Int)==36)=false:=by rw[h0];exact u8_ne hb
 have hb2':((S[0].toNat:Int)==42)=false:=by rw[h0];exact u8_ne hb2
 clear hE hB e1 e2 hn hnn hl hL hb hb2 h0;go_enter Tryz.func65,Tryz.ntmps65;go_wp2_with fail
 go_at_call 96;refine HE.out.mono ?_;rintro e w1 ⟨rfl,hw1⟩;subst hw1;go_wp2_with fail
 go_at_call 27;refine HB.out.mono ?_;rintro e w2 ⟨rfl,hw2⟩;subst hw2;go_wp2_with fail
 go_ret;exact⟨rfl,fun _=>rfl,Below.refl _ _⟩
theorem sz_none3:SzOk 3 [36,45,49,10]:=by
 refine⟨by simp,fun r w hl=>?_⟩;have hE:=kend_any (mkB ([36,45,49,10]++r)) w (by rw[mk_size];omega);have e1:(mkB ([36,45,49,10]++r)).data.toList=[36,45,49]++10::r:=by simp[mkB]
 rw[e1,endI_at (by decide)]at hE;have hB:=kbegins_any (mkB ([36,45,49,10]++r)) ⟨#[36,45,49]⟩ w (by rw[mk_size];omega);have e2:begB (mkB ([36,45,49,10]++r)) ⟨#[36,45,49]⟩=true:=by
  show List.isPrefixOf [36,45,49] ([36,45,49]++10::r)=true;rw[List.isPrefixOf_iff_prefix];exact⟨_,rfl⟩
 rw[e2]at hB;have HE:=hide' hE;have HB:=hide' hB;generalize mkB ([36,45,49,10]++r)=S at*;clear hE hB e1 e2 hl;go_enter Tryz.func65,Tryz.ntmps65;go_wp2_with fail
 go_at_call 96;refine HE.out.mono ?_;rintro e w1 ⟨rfl,hw1⟩;subst hw1;go_wp2_with fail
 go_at_call 27;refine HB.out.mono ?_;rintro e w2 ⟨rfl,hw2⟩;subst hw2;go_wp2_with fail
 go_ret;exact⟨rfl,fun _=>rfl,Below.refl _ _⟩
theorem sz_val3 {v:List UInt8}(hL:∀x∈36::L,x≠10)(h17:L.length≤16)(hm:∀r,begB (mkB (36::L++10::r)) ⟨#[36,45,49]⟩=false)(hv:lastL (36::L++[10])=v.length):SzOk 3 (36::L++10::(v++[10])):=by
 refine⟨by simp,fun r w hl=>?_⟩;have hE:=kend_any (mkB (36::L++10::(v++[10])++r)) w (by rw[mk_size];omega);have e1:36::L++10::(v++[10])++r=36::L++10::(v++10::r):=by simp
 have e1':(mkB (36::L++10::(v++[10])++r)).data.toList=(36::L)++10::(v++10::r):=by simp[mkB]
 rw[e1',endI_at hL]at hE;have hB:=kbegins_any (mkB (36::L++10::(v++[10])++r)) ⟨#[36,45,49]⟩ w (by rw[mk_size];omega);have e2:begB (mkB (36::L++10::(v++[10])++r)) ⟨#[36,45,49]⟩=false:=by rw[e1];exact hm _
 rw[e2]at hB;have e3:(mkB (36::L++10::(v++[10])++r)).extract 0 ((36::L).length+1)=mkB (36::L++[10]):=by
  rw[mk_take,e1];congr 1;rw[show 36::L++10::(v++10::r)=(36::L++[10])++(v++10::r)by simp];exact List.take_left' (by simp)
 have hLa:=klast_any (mkB (36::L++[10])) w (by rw[mk_size];simp;omega);have e4:lastL (mkB (36::L++[10])).data.toList=v.length:=by rw[←hv];simp[mkB]
 rw[e4]at hLa;rw[←e3]at hLa;have hn:(36::L++10::(v++[10])).length=(36::L).length+1+v.length+1:=by simp;omega
 have hsz:(mkB (36::L++10::(v++[10])++r)).size=(36::L).length+1+v.length+1+r.length:=by rw[mk_size,List.length_append,hn]
 have h0:∀h:0<(mkB (36::L++10::(v++[10])++r)).size,(mkB (36::L++10::(v++[10])++r))[0]=36:=fun _=>rfl
 rw[List.length_append]at hl;rw[hn]at hl⊢;generalize hnn:(36::L).length+1=n at*;have hn1:¬(n:Int)<0:=by omega
 have HE:=hide' hE;have HB:=hide' hB;have HL:=hide' hLa;generalize mkB (36::L++10::(v++[10])++r)=S at*;generalize v.length=m at*;generalize r.length=rl at*;have hS0:0<S.size:=by omega
 have h0':=h0 hS0;have hb':(S[0].toNat:Int)=36:=by rw[h0'];rfl
 have hnS:n≤S.size:=by omega
 have HSz:=hide' hsz;clear hE hB hLa e1 e1' e2 e3 e4 hn hnn hL h0 h0' hm hv hsz;go_enter Tryz.func65,Tryz.ntmps65;go_wp2_with fail
 go_at_call 96;refine HE.out.mono ?_;rintro e w1 ⟨rfl,hw1⟩;subst hw1;go_wp2_with fail
 go_at_call 27;refine HB.out.mono ?_;rintro e w2 ⟨rfl,hw2⟩;subst hw2;go_wp2_with fail
 go_at_call 97;refine HL.out.mono ?_;rintro e w3 ⟨rfl,hw3⟩;subst hw3;go_wp2_with fail
 go_ret;exact⟨ret_int (by omega),fun _=>rfl,Below.refl _ _⟩
end Go.Proofs.YtlonjggfnleolaaGreatDoor
