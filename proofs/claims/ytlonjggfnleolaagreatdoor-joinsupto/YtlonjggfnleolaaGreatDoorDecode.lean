import Derived.Test.YtlonjggfnleolaaGreatDoorFrRight
import Derived.Deep.AppendLies
import Derived.Maps.AppendAt
namespace Go.Proofs.YtlonjggfnleolaaGreatDoor
open Go.RowKit
set_option linter.unusedVariables false
set_option maxHeartbeats 1000000
set_option maxRecDepth 20000
theorem eqB {s:ByteArray}(l:List UInt8)(h:¬s=⟨l.toArray⟩):(s.toList==l)=false:=by
 rw[beq_eq_false_iff_ne];intro e;apply h;rw[Lib.toList_data]at e;rw[←e]
theorem kindOf_any (s:ByteArray)(w:World):Calls Tryz.prog 224 #[.string s] w fun e w'=>e= .returned (.int .i64 (kindB s))∧w'=w:=by
 by_cases h1:s=⟨#[103,101,116]⟩
 ·subst h1;go_enter Tryz.func224,Tryz.ntmps224;go_wp2;go_ret;exact⟨rfl,rfl⟩
 by_cases h2:s=⟨#[115,101,116]⟩
 ·subst h2;go_enter Tryz.func224,Tryz.ntmps224;go_wp2;go_ret;exact⟨rfl,rfl⟩
 by_cases h3:s=⟨#[100,101,108]⟩
 ·subst h3;go_enter Tryz.func224,Tryz.ntmps224;go_wp2;go_ret;exact⟨rfl,rfl⟩
 have e1:(s.toList== [103,101,116])=false:=eqB _ h1;have e2:(s.toList== [115,101,116])=false:=eqB _ h2;have e3:(s.toList== [100,101,108])=false:=eqB _ h3;have hk:kindB s=0:=by simp[kindB,h1,h2,h3]
 rw[hk];go_enter Tryz.func224,Tryz.ntmps224;go_wp2;go_ret;exact⟨rfl,rfl⟩
def cntV (r:Option Nat):Value:= .tuple #[.int .i64 (r.getD 0),.bool r.isSome]
theorem digsTo_snoc (l:List UInt8)(b:UInt8):digsTo (l++[b])=digsTo l*10+(b.toNat-48):=by simp[digsTo]
theorem digsTo_lt:∀(l:List UInt8),l.all digB=true→digsTo l<10 ^ l.length:=by
 suffices h:∀(k:Nat) (l:List UInt8),l.length=k→l.all digB=true→digsTo l<10 ^ k by intro l hl;exact h _ l rfl hl
 intro k;induction k with
 |zero=>intro l h _;have:l=[]:=List.length_eq_zero_iff.1 h;subst this;simp[digsTo]
 |succ k ih=>
  intro l0 hl0 h;obtain⟨l,b,rfl⟩:∃l b,l0=l++[b]:=⟨l0.dropLast,l0.getLast (by intro e;subst e;simp at hl0),(List.dropLast_concat_getLast _).symm⟩
  have hl:l.length=k:=by simpa using hl0
  rw[List.all_append,Bool.and_eq_true]at h;have h1:=ih l hl h.1;have h2:digB b=true:=by simpa using h.2
  simp only[digB,Bool.and_eq_true,decide_eq_true_eq]at h2;rw[digsTo_snoc,Nat.pow_succ];omega
theorem count_any (s:ByteArray)(w:World)(hs:s.size≤maxLen):Calls Tryz.prog 227 #[.string s] w fun e w'=>e= .returned (cntV (countS s))∧w'=w:=by
 unfold maxLen at hs;have HS:Hid (countS s=if s.size<1∨3<s.size∨(1<s.size∧s.data.toList.getD 0 0=48)then none else if s.data.toList.all digB then some (digsTo s.data.toList)else none):=rfl;generalize countS s=R at*;by_cases h1:s.size<1
 ·have hR:R=none:=by rw[HS.out];simp[h1]
  subst hR;have h1':(s.size:Int)<1:=by omega
  go_enter Tryz.func227,Tryz.ntmps227;go_wp2;go_ret2;exact⟨rfl,rfl⟩
 by_cases h3:3<s.size
 ·have hR:R=none:=by rw[HS.out];simp[h3]
  subst hR;have h1':¬(s.size:Int)<1:=by omega
  have h3':(3:Int)<s.size:=by omega
  go_enter Tryz.func227,Tryz.ntmps227;go_wp2;go_ret2;exact⟨rfl,rfl⟩
 have hz:0<s.size:=by omega
 have h0:s.data.toList.getD 0 0=s[0]:=by
  rw[List.getD,List.getElem?_eq_getElem (by simpa using hz)];rfl
 by_cases h4:1<s.size∧s[0]=48
 ·have hR:R=none:=by rw[HS.out,if_pos];exact .inr (.inr ⟨h4.1,h0.trans h4.2⟩)
  subst hR;obtain⟨h4a,h4b⟩:=h4;have h1':¬(s.size:Int)<1:=by omega
  have h3':¬(3:Int)<s.size:=by omega
  have h4':(1:Int)<s.size:=by omega
  go_enter Tryz.func227,Tryz.ntmps227;go_wp2;go_ret2;exact⟨rfl,rfl⟩
 have HR:Hid (R=if s.data.toList.all digB then some (digsTo s.data.toList)else none):=by
  show _=_;rw[HS.out,if_neg];rw[h0];rintro (h|h|h)
  ·exact h1 h
  ·exact h3 h
  ·exact h4 h
 clear HS;have h1':¬(s.size:Int)<1:=by omega
 have h3':¬(3:Int)<s.size:=by omega
 have HL:Hid (∀l:List UInt8,l.all digB=true→digsTo l<10 ^ l.length):=digsTo_lt;have key:∀a:Act,∀(hn:a.tmps=a.tmps),True:=fun _ _=>trivial
 clear key;by_cases h5:s.size=1;case' pos=>
  have h5':¬(1:Int)<s.size:=by omega
 case' neg=>
  have h5':(1:Int)<s.size:=by omega
  have h6:¬s[0]=48:=fun h=>h4 ⟨by omega,h⟩
  have h7:((s[0].toNat:Int)==48)=false:=by
   rw[beq_eq_false_iff_ne];intro h;apply h6;apply UInt8.toNat_inj.1;show s[0].toNat=48;omega
 all_goals
  go_enter Tryz.func227,Tryz.ntmps227
  go_wp2
  go_loop [4,26] (fun m i=>∃k:Nat,k≤s.size∧i= .int .i64 k∧m= .int .i64 (digsTo (s.data.toList.take k))∧(s.data.toList.take k).all digB=true) (fun _ i=>s.size-(intOf i).toNat)
  case atStart=>exact⟨0,Nat.zero_le _,rfl,rfl,by simp⟩
  case round=>
   obtain⟨k,hk,rfl,rfl,hall⟩:=hrel;have hb:=HL.out _ hall;have hb2:digsTo (s.data.toList.take k)<1000:=Nat.lt_of_lt_of_le hb (by
    have:(s.data.toList.take k).length≤3:=by simp;omega
    exact Nat.pow_le_pow_right (n:=10) (by decide) this)
   have HA:Hid ((s.data.toList.take k).all digB=true):=hall;clear hall hb;by_cases hlt:k<s.size
   ·cases hb:digB s[k]with
    |true=>
     have hd:=hb;simp only[digB,Bool.and_eq_true,decide_eq_true_eq]at hd;obtain⟨hd1,hd2⟩:=hd;have HT:Hid (digsTo (s.data.toList.take (k+1))=digsTo (s.data.toList.take k)*10+(s[k].toNat-48)):=by show _=_;rw[take_snoc s k hlt,digsTo_snoc]
     generalize digsTo (s.data.toList.take k)=D at*;go_wp2;go_round
     case rel=>exact⟨k+1,by omega,by go_num,by rw[HT.out];go_num,by rw[take_snoc s k hlt];simp[HA.out,hb]⟩
     case measure=>simp[intOf];omega
    |false=>
     have hR:R=none:=by rw[HR.out,all_at hlt hb];rfl
     subst hR;have hd:¬(48≤(s[k].toNat:Int)∧(s[k].toNat:Int)≤57):=by
      intro h;simp[digB,h.1,h.2]at hb
     by_cases hd1:(s[k].toNat:Int)<48
     ·go_wp2;go_ret2;exact⟨rfl,rfl⟩
     ·have hd2:(57:Int)<s[k].toNat:=by omega
      go_wp2;go_ret2;exact⟨rfl,rfl⟩
   ·have hk2:k=s.size:=by omega
    subst hk2;have e1:s.data.toList.take s.size=s.data.toList:=List.take_of_length_le (by simp);have HR2:Hid (R=some (digsTo (s.data.toList.take s.size))):=by show _=_;have hA:=HA.out;rw[e1]at hA⊢;rw[HR.out,if_pos hA]
    clear HR;generalize digsTo (s.data.toList.take s.size)=D at*;go_wp2;go_ret2;exact⟨by rw[HR2.out];rfl,rfl⟩
theorem setSize_any (ws:List ByteArray)(b o c:Nat)(w:World)(hc:∀(i:Nat) (s:ByteArray),ws[i]?=some s→w.cell? ⟨b,o+i,none⟩=some (.string s))(hb:b<w.heap.size)(hcap:ws.length≤c)(hm:ws.length≤maxLen)(hz:∀s∈ws,s.size≤maxLen):Calls Tryz.prog 222 #[.slice (some ⟨b,o,none⟩) ws.length c] w fun e w'=>e= .returned (cntV (setSizeR ws))∧w'=w:=by
 unfold maxLen at hm;by_cases h3:ws.length=3
 ·match ws,h3 with
  | [x,y,z],_=>
   have hx:=hc 0 x rfl;have hy:=hc 1 y rfl;have hzc:=hc 2 z rfl;have sy:=hz y (by simp);have sz:=hz z (by simp);clear hc hz;simp only[Nat.add_zero]at hx;have hR:setSizeR [x,y,z]=if kindB x=2∧keyB y=true then countS z else none:=by simp[setSizeR]
   rw[hR];clear hR;by_cases hk:kindB x=2
   ·cases hy2:keyB y with
    |true=>
     rw[if_pos ⟨hk,rfl⟩];go_enter Tryz.func222,Tryz.ntmps222;go_wp2_with (first|(go_at_call 224;refine(kindOf_any _ _).mono ?_;rintro e w' ⟨rfl,rfl⟩)|(go_at_call 50;refine(key_any _ _ sy).mono ?_;rintro e w' ⟨rfl,rfl⟩)|(go_at_call 227;refine(count_any _ _ sz).mono ?_;rintro e w' ⟨rfl,rfl⟩;unfold cntV))
     go_ret2;exact⟨rfl,rfl⟩
    |false=>
     rw[if_neg (by simp)];go_enter Tryz.func222,Tryz.ntmps222;go_wp2_with (first|(go_at_call 224;refine(kindOf_any _ _).mono ?_;rintro e w' ⟨rfl,rfl⟩)|(go_at_call 50;refine(key_any _ _ sy).mono ?_;rintro e w' ⟨rfl,rfl⟩))
     go_ret2;exact⟨rfl,rfl⟩
   ·rw[if_neg (fun h=>hk h.1)];have hk':(kindB x==2)=false:=by simpa using hk
    go_enter Tryz.func222,Tryz.ntmps222;go_wp2_with (go_at_call 224;refine(kindOf_any _ _).mono ?_;rintro e w' ⟨rfl,rfl⟩)
    go_ret2;exact⟨rfl,rfl⟩
 ·have hR:setSizeR ws=none:=by simp[setSizeR,h3]
  rw[hR];have h3':((ws.length:Int)==3)=false:=by rw[beq_eq_false_iff_ne];omega
  generalize ws.length=n at*;go_enter Tryz.func222,Tryz.ntmps222;go_wp2;go_ret2;exact⟨rfl,rfl⟩
end Go.Proofs.YtlonjggfnleolaaGreatDoor
namespace Go.Proofs.YtlonjggfnleolaaGreatDoor
set_option linter.unusedVariables false
variable {bs x:List UInt8}{i n least most:Nat}{s:WS}{c:UInt8}
theorem byAt_app (h:i<bs.length):byAt (bs++x) i=byAt bs i:=by
 simp[byAt,List.getD,List.getElem?_append_left h]
theorem getD_app (h:i<bs.length):(bs++x).getD i 0=bs.getD i 0:=by
 simp[List.getD,List.getElem?_append_left h]
theorem numAt_app (h:i+1<bs.length):numAt (bs++x) i=numAt bs i:=by
 rw[numAt,numAt,byAt_app (by omega),byAt_app h]
theorem bytesOf_app {k:Nat}(h:i+k≤bs.length):bytesOf (bs++x) i k=bytesOf bs i k:=by
 unfold bytesOf;congr 2;rw[List.drop_append_of_le_length (by omega),List.take_append_of_le_length (by simp;omega)]
theorem frHead_app (h:7≤bs.length):frHead (bs++x)=frHead bs:=by
 unfold frHead;rw[byAt_app (by omega),byAt_app (by omega),byAt_app (by omega),numAt_app (by omega)]
theorem frR_mono {s:StepR}(x:List UInt8)(h:frR bs=some s):frR (bs++x)=some s∧1≤s.used∧s.used≤bs.length:=by
 unfold frR at h;split at h
 ·cases h
 rename_i h7;unfold frR;rw[if_neg (by simp;omega),frHead_app (by omega)];split at h
 ·rename_i hh;rw[if_pos hh];cases h;exact⟨rfl,by show 1≤7;omega,by show 7≤_;omega⟩
 rename_i hh;rw[if_neg hh,byAt_app (by omega),byAt_app (by omega),numAt_app (by omega),numAt_app (by omega)];split at h
 ·cases h
 rename_i hl;rw[if_neg (by simp;omega),bytesOf_app (by omega),bytesOf_app (by omega)];split at h
 ·rename_i hk;rw[if_pos hk];cases h;exact⟨rfl,by show 1≤7+_+_;omega,by show 7+_+_≤_;omega⟩
 ·rename_i hk;rw[if_neg hk];cases h;exact⟨rfl,by show 1≤7+_+_;omega,by show 7+_+_≤_;omega⟩
theorem ib_nonneg_app:∀(l m:List UInt8) (c:UInt8),0≤Go.Lib.indexByte l c→Go.Lib.indexByte (l++m) c=Go.Lib.indexByte l c∧(Go.Lib.indexByte l c).toNat<l.length∧l.getD (Go.Lib.indexByte l c).toNat 0=c:=by
 intro l;induction l with
 |nil=>intro m c h;simp[Go.Lib.indexByte]at h
 |cons b l ih=>
  intro m c h;simp only[List.cons_append]
  by_cases hb:(b==c)=true
  ·have hb':b=c:=by simpa using hb
   simp[Go.Lib.indexByte,hb']
  ·have hb':(b==c)=false:=by simpa using hb
   unfold Go.Lib.indexByte at h⊢;simp only[hb',Bool.false_eq_true,if_false]at h⊢;by_cases hl:Go.Lib.indexByte l c= -1
   ·simp[hl]at h
   ·have hge:=Go.Lib.indexByte_ge l c;obtain⟨h1,h2,h3⟩:=ih m c (by omega);have hl':(Go.Lib.indexByte l c== -1)=false:=by simpa using hl
    rw[h1];simp only[hl',Bool.false_eq_true,if_false]at h⊢;have t2:(Go.Lib.indexByte l c+1).toNat=(Go.Lib.indexByte l c).toNat+1:=by omega
    refine⟨trivial,?_,?_⟩
    ·simp;omega
    ·rw[t2,List.getD_cons_succ];exact h3
theorem setR_mono {frm size:Nat}{key:ByteArray}{s:StepR}(x:List UInt8)(h:setR bs frm key size=some s)(h1:1≤frm)(hf:frm≤bs.length):setR (bs++x) frm key size=some s∧1≤s.used∧s.used≤bs.length:=by
 unfold setR at h⊢;split at h
 ·rename_i h40;rw[if_pos h40];cases h;exact⟨rfl,h1,hf⟩
 rename_i h40;rw[if_neg h40];split at h
 ·cases h
 rename_i hl;rw[if_neg (by simp;omega),getD_app (by omega),bytesOf_app (by omega)];split at h
 ·rename_i hb;rw[if_pos hb];cases h;exact⟨rfl,by show 1≤frm+size;omega,by show frm+size≤_;omega⟩
 ·rename_i hb;rw[if_neg hb];cases h;exact⟨rfl,by show 1≤frm+size+1;omega,by show frm+size+1≤_;omega⟩
theorem lineR_mono {e:Nat}{s:StepR}(x:List UInt8)(h:lineR bs e=some s)(he:e<bs.length):lineR (bs++x) e=some s∧1≤s.used∧s.used≤bs.length:=by
 unfold lineR at h⊢;rw[List.take_append_of_le_length (by omega)];split at h
 ·exact setR_mono x h (by omega) (by omega)
 ·split at h
  ·cases h;rename_i hc;rw[if_pos hc];exact⟨rfl,by show 1≤e+1;omega,by show e+1≤_;omega⟩
  ·cases h;rename_i hc;rw[if_neg hc];exact⟨rfl,by show 1≤e+1;omega,by show e+1≤_;omega⟩
theorem lnR_mono {s:StepR}(x:List UInt8)(h:lnR bs=some s):lnR (bs++x)=some s∧1≤s.used∧s.used≤bs.length:=by
 unfold lnR at h⊢;have ht:(bs++x).take 61=bs.take 61++x.take (61-bs.length):=List.take_append;split at h
 ·rename_i hi;obtain⟨h1,h2,_⟩:=ib_nonneg_app (bs.take 61) (x.take (61-bs.length)) 10 hi;rw[ht,h1,if_pos hi];exact lineR_mono x h (by simp at h2;omega)
 ·rename_i hi;split at h
  ·rename_i hl;have e0:61-bs.length=0:=by omega
   rw[ht,e0,List.take_zero,List.append_nil,if_neg hi,if_pos (by simp;omega)];cases h;exact⟨rfl,by show 1≤61;omega,by show 61≤_;omega⟩
  ·cases h
structure WS.ok (n:Nat)(s:WS):Prop where
 pos:s.pos≤n
 bad:s.wrong=true→s.pos<n∧s.short=false
theorem look_same (h:(s.look n).short=false):s.short=false∧s.pos≠n∧s.look n=s:=by
 obtain⟨p,wr,sh⟩:=s;simp only[WS.look,Bool.or_eq_false_iff,decide_eq_false_iff_not]at h⊢;obtain⟨rfl,h2⟩:=h;simp[h2]
theorem look_ok (h:s.ok n):(s.look n).ok n:=by
 obtain⟨p,wr,sh⟩:=s;refine⟨h.pos,fun hw=>?_⟩;obtain⟨h1,h2⟩:=h.bad hw;refine⟨h1,?_⟩;simp only[WS.look,Bool.or_eq_false_iff,decide_eq_false_iff_not]at h2⊢;exact⟨h2,by simp at h1;omega⟩
theorem look_more {m:Nat}(h:s.ok n)(hs:(s.look n).short=false):s.look (n+m)=s.look n:=by
 obtain⟨h1,h2,h3⟩:=look_same hs;have:=h.pos;rw[h3];obtain⟨p,wr,sh⟩:=s;simp only[WS.look]at*;subst h1;simp;omega
theorem expectW_ok (h:s.ok bs.length):(expectW bs c s).ok bs.length:=by
 unfold expectW;split
 ·exact look_ok h
 ·rename_i hs;simp only[Bool.or_eq_true,not_or,Bool.not_eq_true]at hs;obtain⟨h1,h2,h3⟩:=look_same hs.1;have:=h.pos;split
  ·exact⟨by show s.pos+1≤_;omega,fun hw=>by cases hw⟩
  ·exact⟨this,fun _=>⟨by show s.pos<_;omega,rfl⟩⟩
theorem expectW_mono (x:List UInt8)(h:s.ok bs.length)(hs:(expectW bs c s).short=false):expectW (bs++x) c s=expectW bs c s∧s.short=false:=by
 have hl:(s.look bs.length).short=false:=by
  cases hb:(s.look bs.length).short with
  |false=>rfl
  |true=>unfold expectW at hs;rw[if_pos (by rw[hb];rfl),hb]at hs;cases hs
 obtain⟨h1,h2,h3⟩:=look_same hl;have:=h.pos;unfold expectW;rw[List.length_append,look_more h hl,getD_app (by omega)];exact⟨rfl,h1⟩
theorem countF_ok:∀(f p n:Nat) (first:Bool),p+f=bs.length→(countF bs least most f p n first).2.ok bs.length:=by
 intro f;induction f with
 |zero=>intro p n first h;exact⟨by show p≤_;omega,fun hw=>by cases hw⟩
 |succ f ih=>
  intro p n first h;unfold countF;split
  ·exact⟨by show p+1≤_;omega,fun hw=>by cases hw⟩
  ·split
   ·exact⟨by show p≤_;omega,fun _=>⟨by show p<_;omega,rfl⟩⟩
   ·exact ih _ _ _ (by omega)
theorem countF_mono (x:List UInt8):∀(f p n:Nat) (first:Bool),p+f=bs.length→(countF bs least most f p n first).2.short=false→countF (bs++x) least most (f+x.length) p n first=countF bs least most f p n first:=by
 intro f;induction f with
 |zero=>intro p n first h hs;cases hs
 |succ f ih=>
  intro p n first h hs;have e:f+1+x.length=(f+x.length)+1:=by omega
  rw[e];unfold countF at hs⊢;rw[getD_app (by omega),byAt_app (by omega)];split at hs
  ·rename_i hc;rw[if_pos hc,if_pos hc]
  ·rename_i hc;rw[if_neg hc,if_neg hc];split at hs
   ·rename_i hd;rw[if_pos hd,if_pos hd]
   ·rename_i hd;rw[if_neg hd,if_neg hd];exact ih _ _ _ (by omega) hs
theorem countW_ok (h:s.ok bs.length):(countW bs least most s).2.ok bs.length:=by
 have:=h.pos;unfold countW;split
 ·exact look_ok h
 ·exact countF_ok _ _ _ _ (by omega)
theorem countW_mono (x:List UInt8)(h:s.ok bs.length)(hs:(countW bs least most s).2.short=false):countW (bs++x) least most s=countW bs least most s∧s.short=false:=by
 have hl:(s.look bs.length).short=false:=by
  cases hb:(s.look bs.length).short with
  |false=>rfl
  |true=>unfold countW at hs;rw[if_pos (by rw[hb];rfl)]at hs;simp only[hb]at hs;cases hs
 obtain⟨h1,h2,h3⟩:=look_same hl;have:=h.pos;unfold countW at hs⊢;rw[List.length_append,look_more h hl];refine⟨?_,h1⟩;split
 ·rfl
 ·rename_i hc;rw[if_neg hc]at hs;have e:bs.length+x.length-s.pos=(bs.length-s.pos)+x.length:=by omega
  rw[e];exact countF_mono x _ _ _ _ (by omega) hs
theorem textW_ok (h:s.ok bs.length):(textW bs n s).2.ok bs.length:=by
 have:=h.pos;unfold textW;split
 ·exact h
 ·rename_i hc;simp only[Bool.or_eq_true,not_or,Bool.not_eq_true]at hc;split
  ·exact⟨this,fun hw=>by simp only[hc.1]at hw;cases hw⟩
  ·exact⟨by show s.pos+n≤_;omega,fun hw=>by simp only[hc.1]at hw;cases hw⟩
theorem textW_mono (x:List UInt8)(h:s.ok bs.length)(hs:(textW bs n s).2.short=false):textW (bs++x) n s=textW bs n s∧s.short=false:=by
 unfold textW at hs⊢;split at hs
 ·rename_i hc;rw[if_pos hc,if_pos hc];exact⟨rfl,hs⟩
 ·rename_i hc;split at hs
  ·cases hs
  ·rename_i hl;rw[if_neg hc,if_neg hc,if_neg hl,if_neg (by simp;omega),bytesOf_app (by omega)];exact⟨rfl,hs⟩
theorem oneW_ok (h:s.ok bs.length):(oneW bs s).2.ok bs.length:=expectW_ok (textW_ok (countW_ok (expectW_ok h)))
theorem oneW_mono (x:List UInt8)(h:s.ok bs.length)(hs:(oneW bs s).2.short=false):oneW (bs++x) s=oneW bs s∧s.short=false:=by
 unfold oneW at hs⊢;simp only at hs⊢;have k1:=expectW_ok (c:=36) h;have k2:=countW_ok (least:=0) (most:=40) k1;have k3:=textW_ok (n:=(countW bs 0 40 (expectW bs 36 s)).1) k2;obtain⟨e4,s3⟩:=expectW_mono x k3 hs;obtain⟨e3,s2⟩:=textW_mono x k2 s3;obtain⟨e2,s1⟩:=countW_mono x k1 s2;obtain⟨e1,s0⟩:=expectW_mono x h s1;rw[e1,e2,e3,e4];exact⟨rfl,s0⟩
theorem textsW_ok:∀(k:Nat) (s:WS) (acc:List ByteArray),s.ok bs.length→(textsW bs k s acc).2.ok bs.length:=by
 intro k;induction k with
 |zero=>intro s acc h;exact h
 |succ k ih=>intro s acc h;exact ih _ _ (oneW_ok h)
theorem textsW_mono (x:List UInt8):∀(k:Nat) (s:WS) (acc:List ByteArray),s.ok bs.length→(textsW bs k s acc).2.short=false→textsW (bs++x) k s acc=textsW bs k s acc∧s.short=false:=by
 intro k;induction k with
 |zero=>intro s acc h hs;exact⟨rfl,hs⟩
 |succ k ih=>
  intro s acc h hs;unfold textsW at hs⊢;obtain⟨e,s1⟩:=ih _ _ (oneW_ok h) hs;obtain⟨e1,s0⟩:=oneW_mono x h s1;rw[e1,e];exact⟨rfl,s0⟩
theorem textsR_used (ts:List ByteArray)(u:Nat):(textsR ts u).used=u:=by
 unfold textsR;simp only
 (repeat' split)<;>rfl
theorem expect0_pos (c:UInt8)(h:(expectW bs c ⟨0,false,false⟩).wrong=false)(hs:(expectW bs c ⟨0,false,false⟩).short=false):1≤(expectW bs c ⟨0,false,false⟩).pos:=by
 unfold expectW at h hs⊢;split at hs
 ·rename_i hc;simp only[Bool.or_eq_true,hs]at hc;rcases hc with hc|hc<;>cases hc
 ·rename_i hc;rw[if_neg hc]at h⊢;split at h
  ·rename_i hd;rw[if_pos hd];show 1≤0+1;omega
  ·cases h
theorem expectW_pos:s.pos≤(expectW bs c s).pos:=by
 unfold expectW;split
 ·exact Nat.le_refl _
 ·split
  ·show s.pos≤s.pos+1;omega
  ·exact Nat.le_refl _
theorem countF_pos:∀(f p n:Nat) (first:Bool),p≤(countF bs least most f p n first).2.pos:=by
 intro f;induction f with
 |zero=>intro p n first;exact Nat.le_refl _
 |succ f ih=>
  intro p n first;unfold countF;split
  ·show p≤p+1;omega
  ·split
   ·exact Nat.le_refl _
   ·exact Nat.le_trans (by omega) (ih (p+1) _ _)
theorem countW_pos:s.pos≤(countW bs least most s).2.pos:=by
 unfold countW;split
 ·exact Nat.le_refl _
 ·exact countF_pos _ _ _ _
theorem textW_pos:s.pos≤(textW bs n s).2.pos:=by
 unfold textW;split
 ·exact Nat.le_refl _
 ·split
  ·exact Nat.le_refl _
  ·show s.pos≤s.pos+n;omega
theorem oneW_pos:s.pos≤(oneW bs s).2.pos:=
 Nat.le_trans (Nat.le_trans expectW_pos countW_pos) (Nat.le_trans textW_pos expectW_pos)
theorem textsW_pos:∀(k:Nat) (s:WS) (acc:List ByteArray),s.pos≤(textsW bs k s acc).2.pos:=by
 intro k;induction k with
 |zero=>intro s acc;exact Nat.le_refl _
 |succ k ih=>intro s acc;exact Nat.le_trans oneW_pos (ih _ _)
theorem wrong_stays (h:s.wrong=true):(expectW bs c s).wrong=true:=by
 unfold expectW;rw[if_pos (by simp[h])];exact h
theorem countW_stays (h:s.wrong=true):(countW bs least most s).2.wrong=true:=by
 unfold countW;rw[if_pos (by simp[h])];exact h
theorem textW_stays (h:s.wrong=true):(textW bs n s).2.wrong=true:=by
 unfold textW;rw[if_pos (by simp[h])];exact h
theorem textsW_stays:∀(k:Nat) (s:WS) (acc:List ByteArray),s.wrong=true→(textsW bs k s acc).2.wrong=true:=by
 intro k;induction k with
 |zero=>intro s acc h;exact h
 |succ k ih=>intro s acc h;exact ih _ _ (wrong_stays (textW_stays (countW_stays (wrong_stays h))))
theorem lsR_mono {s:StepR}(x:List UInt8)(h:lsR bs=some s):lsR (bs++x)=some s∧1≤s.used∧s.used≤bs.length:=by
 unfold lsR at h⊢;simp only at h⊢;have k0:(⟨0,false,false⟩:WS).ok bs.length:=⟨Nat.zero_le _,fun hw=>by cases hw⟩
 have k1:=expectW_ok (c:=42) k0;have k2:=countW_ok (least:=1) (most:=5) k1;have k3:=textsW_ok (countW bs 1 5 (expectW bs 42 ⟨0,false,false⟩)).1 _ [] k2;have hsh:(textsW bs (countW bs 1 5 (expectW bs 42 ⟨0,false,false⟩)).1 (countW bs 1 5 (expectW bs 42 ⟨0,false,false⟩)).2 []).2.short=false:=by
  split at h
  ·rename_i hw;exact(k3.bad hw).2
  ·split at h
   ·cases h
   ·rename_i hs;simpa using hs
 obtain⟨e3,s2⟩:=textsW_mono x _ _ [] k2 hsh;obtain⟨e2,s1⟩:=countW_mono x k1 s2;obtain⟨e1,s0⟩:=expectW_mono x k0 s1;rw[e1,e2,e3];refine⟨h,?_⟩;split at h
 ·rename_i hw;cases h;exact⟨by show 1≤_+1;omega,by show _+1≤_;have:=(k3.bad hw).1;omega⟩
 ·rename_i hw;split at h
  ·cases h
  ·cases h;rw[textsR_used];refine⟨?_,k3.pos⟩;have w1:(expectW bs 42 ⟨0,false,false⟩).wrong=false:=by
    cases hb:(expectW bs 42 ⟨0,false,false⟩).wrong with
    |false=>rfl
    |true=>exact absurd (textsW_stays _ _ _ (countW_stays hb)) hw
   exact Nat.le_trans (expect0_pos 42 w1 s1) (Nat.le_trans countW_pos (textsW_pos _ _ _))
theorem readR_mono {d:Int}{s:StepR}(x:List UInt8)(h:readR d bs=some s):readR d (bs++x)=some s∧1≤s.used∧s.used≤bs.length:=by
 unfold readR at h⊢;split at h
 ·rename_i h1;rw[if_pos h1];exact lnR_mono x h
 ·rename_i h1;rw[if_neg h1];split at h
  ·rename_i h2;rw[if_pos h2];exact frR_mono x h
  ·rename_i h2;rw[if_neg h2];exact lsR_mono x h
end Go.Proofs.YtlonjggfnleolaaGreatDoor
namespace Go.Proofs.YtlonjggfnleolaaGreatDoor
set_option linter.unusedVariables false
variable {d:Int}{t:StepR}
structure St where
 held:List UInt8
 pass:Bool
 closed:Bool
def passL (l:List UInt8):List UInt8×Bool:=if 0≤Go.Lib.indexByte l 10 then(l.drop ((Go.Lib.indexByte l 10).toNat+1),false)else([],true)
def takeS (s:St)(p:List UInt8):St:=
 if s.closed then s else if s.pass then⟨(passL (s.held++p)).1,(passL (s.held++p)).2,false⟩else⟨s.held++p,false,false⟩
def afterS (s:St)(t:StepR):St:=
 if t.c.fatal then⟨[],false,true⟩else if t.skip then⟨(passL (s.held.drop t.used)).1,(passL (s.held.drop t.used)).2,s.closed⟩else⟨s.held.drop t.used,s.pass,s.closed⟩
structure St.ok (s:St):Prop where
 pass:s.pass=true→s.held=[]
 closed:s.closed=true→s.held=[]∧s.pass=false
theorem readR_nil (d:Int):readR d []=none:=by
 cases h:readR d []with
 |none=>rfl
 |some s=>have:=(readR_mono [] h).2;simp at this;omega
theorem passL_len (l:List UInt8):(passL l).1.length≤l.length:=by
 unfold passL;split<;>simp
theorem passL_pass (l:List UInt8)(h:(passL l).2=true):(passL l).1=[]:=by
 unfold passL at h⊢;split at h
 ·cases h
 ·rename_i hi;rw[if_neg hi]
theorem afterS_len {s:St}(h:readR d s.held=some t):(afterS s t).held.length<s.held.length:=by
 obtain⟨_,h1,h2⟩:=readR_mono [] h;unfold afterS;split
 ·show 0<_;omega
 ·split
  ·have:=passL_len (s.held.drop t.used);show(passL (s.held.drop t.used)).1.length<_;simp at this;omega
  ·show(s.held.drop t.used).length<_;simp;omega
theorem ib_cons (b:UInt8)(l:List UInt8)(c:UInt8):Go.Lib.indexByte (b::l) c=if b==c then 0 else if Go.Lib.indexByte l c== -1 then-1 else Go.Lib.indexByte l c+1:=rfl
theorem ib_neg_app:∀(l m:List UInt8) (c:UInt8),¬0≤Go.Lib.indexByte l c→Go.Lib.indexByte (l++m) c=if 0≤Go.Lib.indexByte m c then(l.length:Int)+Go.Lib.indexByte m c else-1:=by
 intro l;induction l with
 |nil=>
  intro m c h;have:=Go.Lib.indexByte_ge m c;simp only[List.nil_append,List.length_nil]
  split
  ·omega
  ·omega
 |cons b l ih=>
  intro m c h;rw[List.cons_append];rw[ib_cons]at h⊢;cases hb:(b==c)with
  |true=>simp[hb]at h
  |false=>
   have hge:=Go.Lib.indexByte_ge l c;have hl:¬0≤Go.Lib.indexByte l c:=by
    intro h0;apply h;have:(Go.Lib.indexByte l c== -1)=false:=by rw[beq_eq_false_iff_ne];omega
    simp only[hb,this,Bool.false_eq_true,if_false]
    omega
   have e:=ih m c hl;simp only[Bool.false_eq_true,if_false]
   rw[e];by_cases hm:0≤Go.Lib.indexByte m c
   ·have t:(((l.length:Int)+Go.Lib.indexByte m c)== -1)=false:=by rw[beq_eq_false_iff_ne];omega
    simp only[hm,if_true,t,Bool.false_eq_true,if_false,List.length_cons]
    omega
   ·simp only[hm,if_false]
    rfl
theorem passL_app (l m:List UInt8):passL (l++m)=if(passL l).2=true then passL m else((passL l).1++m,false):=by
 unfold passL;by_cases h:0≤Go.Lib.indexByte l 10
 ·obtain⟨h1,h2,_⟩:=ib_nonneg_app l m 10 h;rw[h1,if_pos h,if_pos h];simp only[Bool.false_eq_true,if_false]
  rw[List.drop_append_of_le_length (by omega)]
 ·rw[ib_neg_app l m 10 h,if_neg h];simp only[if_true]
  by_cases hm:0≤Go.Lib.indexByte m 10
  ·simp only[hm,if_true]
   rw[if_pos (by omega)];have e:((l.length:Int)+Go.Lib.indexByte m 10).toNat+1=l.length+((Go.Lib.indexByte m 10).toNat+1):=by omega
   rw[e,List.drop_append];simp
  ·simp only[hm,if_false]
   rw[if_neg (by omega)]
theorem takeS_ok {s:St}(p:List UInt8)(h:s.ok):(takeS s p).ok:=by
 unfold takeS;split
 ·exact h
 ·split
  ·exact⟨fun hp=>passL_pass _ hp,fun hc=>(by cases hc)⟩
  ·exact⟨fun hp=>(by cases hp),fun hc=>(by cases hc)⟩
theorem live {s:St}(h:s.ok)(hr:readR d s.held=some t):s.closed=false∧s.pass=false:=by
 have hne:s.held≠[]:=by intro e;rw[e,readR_nil]at hr;cases hr
 refine⟨?_,?_⟩
 ·cases hc:s.closed with
  |false=>rfl
  |true=>exact absurd (h.closed hc).1 hne
 ·cases hc:s.pass with
  |false=>rfl
  |true=>exact absurd (h.pass hc) hne
def st0:St:=⟨[],false,false⟩
theorem st0_ok:st0.ok:=⟨fun _=>rfl,fun _=>⟨rfl,rfl⟩⟩
end Go.Proofs.YtlonjggfnleolaaGreatDoor
namespace Go.Proofs.YtlonjggfnleolaaGreatDoor
set_option linter.unusedVariables false
variable {bs:List UInt8}{s:WS}{least most n:Nat}{b:UInt8}{t:StepR}{d:Int}
theorem expectW_loc (x:List UInt8){c:UInt8}(hw:(expectW (bs++x) c s).wrong=false)(hs:(expectW (bs++x) c s).short=false)(hp:(expectW (bs++x) c s).pos≤bs.length):expectW bs c s=expectW (bs++x) c s∧s.wrong=false∧s.short=false:=by
 unfold expectW at hw hs hp⊢;by_cases hc:((s.look (bs++x).length).short || s.wrong)=true
 ·rw[if_pos hc]at hw hs;have hw':s.wrong=false:=hw;rw[hs,hw']at hc;cases hc
 ·rw[if_neg hc]at hw hs hp⊢;have hc':=hc;simp only[Bool.or_eq_true,not_or,Bool.not_eq_true]at hc';obtain⟨h1,h2,h3⟩:=look_same hc'.1;split at hw
  ·rename_i he;rw[if_pos he]at hp⊢;have hp':s.pos+1≤bs.length:=hp;have hl:(s.look bs.length).short=false:=by
    simp only[WS.look,h1,Bool.false_or,decide_eq_false_iff_not];omega
   rw[getD_app (by omega)]at he;rw[if_neg (by rw[hl,hc'.2];simp),if_pos he];exact⟨rfl,hc'.2,h1⟩
  ·cases hw
theorem countF_up:∀(f p n:Nat) (first:Bool),(countF bs least most f p n first).2.wrong=false→(countF bs least most f p n first).2.short=false→p+1≤(countF bs least most f p n first).2.pos:=by
 intro f;induction f with
 |zero=>intro p n first _ hs;cases hs
 |succ f ih=>
  intro p n first hw hs;unfold countF at hw hs⊢;split at hw
  ·rename_i hc;rw[if_pos hc];exact Nat.le_refl _
  ·rename_i hc;rw[if_neg hc]at hs⊢;split at hw
   ·cases hw
   ·rename_i hd;rw[if_neg hd]at hs⊢;exact Nat.le_trans (by omega) (ih _ _ _ hw hs)
theorem countF_loc (x:List UInt8):∀(f p n:Nat) (first:Bool),p+f=bs.length→(countF (bs++x) least most (f+x.length) p n first).2.wrong=false→(countF (bs++x) least most (f+x.length) p n first).2.short=false→(countF (bs++x) least most (f+x.length) p n first).2.pos≤bs.length→countF bs least most f p n first=countF (bs++x) least most (f+x.length) p n first:=by
 intro f;induction f with
 |zero=>
  intro p n first h hw hs hp;have:=countF_up _ _ _ _ hw hs;omega
 |succ f ih=>
  intro p n first h hw hs hp;have e:f+1+x.length=(f+x.length)+1:=by omega
  rw[e]at hw hs hp⊢;unfold countF at hw hs hp⊢;rw[getD_app (by omega),byAt_app (by omega)]at hw hs hp⊢;split at hw
  ·rename_i hc;rw[if_pos hc,if_pos hc]
  ·rename_i hc;rw[if_neg hc]at hs hp⊢;rw[if_neg hc];split at hw
   ·cases hw
   ·rename_i hd;rw[if_neg hd]at hs hp⊢;rw[if_neg hd];exact ih _ _ _ (by omega) hw hs hp
theorem countW_loc (x:List UInt8)(hw:(countW (bs++x) least most s).2.wrong=false)(hs:(countW (bs++x) least most s).2.short=false)(hp:(countW (bs++x) least most s).2.pos≤bs.length):countW bs least most s=countW (bs++x) least most s∧s.wrong=false∧s.short=false:=by
 unfold countW at hw hs hp⊢;by_cases hc:((s.look (bs++x).length).short || s.wrong)=true
 ·rw[if_pos hc]at hw hs;have hw':s.wrong=false:=hw;have hs':(s.look (bs++x).length).short=false:=hs;rw[hs',hw']at hc;cases hc
 ·rw[if_neg hc]at hw hs hp⊢;have hc':=hc;simp only[Bool.or_eq_true,not_or,Bool.not_eq_true]at hc';obtain⟨h1,h2,h3⟩:=look_same hc'.1;have hup:=countF_up _ _ _ _ hw hs;have hl:(s.look bs.length).short=false:=by
   simp only[WS.look,h1,Bool.false_or,decide_eq_false_iff_not];omega
  rw[if_neg (by rw[hl,hc'.2];simp)];have hlt:s.pos<bs.length:=by omega
  have e:(bs++x).length-s.pos=(bs.length-s.pos)+x.length:=by rw[List.length_append];omega
  rw[e]at hw hs hp⊢;exact⟨countF_loc x _ _ _ _ (by omega) hw hs hp,hc'.2,h1⟩
theorem textW_loc (x:List UInt8)(hw:(textW (bs++x) n s).2.wrong=false)(hs:(textW (bs++x) n s).2.short=false)(hp:(textW (bs++x) n s).2.pos≤bs.length):textW bs n s=textW (bs++x) n s∧s.wrong=false∧s.short=false:=by
 unfold textW at hw hs hp⊢;by_cases hc:(s.wrong || s.short)=true
 ·rw[if_pos hc]at hw hs;have hw':s.wrong=false:=hw;have hs':s.short=false:=hs;rw[hs',hw']at hc;cases hc
 ·rw[if_neg hc]at hw hs hp⊢;have hc':=hc;simp only[Bool.or_eq_true,not_or,Bool.not_eq_true]at hc';split at hs
  ·cases hs
  ·rename_i hl;rw[if_neg hl]at hp⊢;have hp':s.pos+n≤bs.length:=hp;rw[if_neg hc,if_neg (by omega),bytesOf_app (by omega)];exact⟨rfl,hc'.1,hc'.2⟩
theorem oneW_loc (x:List UInt8)(hw:(oneW (bs++x) s).2.wrong=false)(hs:(oneW (bs++x) s).2.short=false)(hp:(oneW (bs++x) s).2.pos≤bs.length):oneW bs s=oneW (bs++x) s∧s.wrong=false∧s.short=false:=by
 unfold oneW at hw hs hp⊢;simp only at hw hs hp⊢;obtain⟨e4,w3,s3⟩:=expectW_loc x hw hs hp;have p3:=Nat.le_trans expectW_pos hp;obtain⟨e3,w2,s2⟩:=textW_loc x w3 s3 p3;have p2:=Nat.le_trans textW_pos p3;obtain⟨e2,w1,s1⟩:=countW_loc x w2 s2 p2;have p1:=Nat.le_trans countW_pos p2;obtain⟨e1,w0,s0⟩:=expectW_loc x w1 s1 p1;rw[e1,e2,e3,e4];exact⟨rfl,w0,s0⟩
theorem textsW_loc (x:List UInt8):∀(k:Nat) (s:WS) (acc:List ByteArray),(textsW (bs++x) k s acc).2.wrong=false→(textsW (bs++x) k s acc).2.short=false→(textsW (bs++x) k s acc).2.pos≤bs.length→textsW bs k s acc=textsW (bs++x) k s acc∧s.wrong=false∧s.short=false:=by
 intro k;induction k with
 |zero=>intro s acc hw hs hp;exact⟨rfl,hw,hs⟩
 |succ k ih=>
  intro s acc hw hs hp;unfold textsW at hw hs hp⊢;have pp:=textsW_pos (bs:=bs++x) k (oneW (bs++x) s).2 (acc++[(oneW (bs++x) s).1]);obtain⟨e,w1,s1⟩:=ih _ _ hw hs hp;obtain⟨e1,w0,s0⟩:=oneW_loc x w1 s1 (Nat.le_trans pp hp);rw[e1,e];exact⟨rfl,w0,s0⟩
def EdgeAt (n:Nat)(b:UInt8)(t:StepR):Prop:=
 (t.c.fatal=true∧t.skip=false)∨(t.c.fatal=false∧t.skip=false∧t.used=n+1)∨(t.c.fatal=false∧t.skip=true∧(t.used=n+1∨(t.used=n∧b≠10)))
theorem textsR_plain (ts:List ByteArray)(u:Nat):(textsR ts u).c.fatal=false∧(textsR ts u).skip=false:=by
 unfold textsR;simp only
 (repeat' split)<;>exact⟨rfl,rfl⟩
theorem lsR_edge (h0:lsR bs=none)(h:lsR (bs++[b])=some t):EdgeAt bs.length b t:=by
 unfold lsR at h;simp only at h;split at h
 ·cases h;exact .inl ⟨rfl,rfl⟩
 ·rename_i hw;split at h
  ·cases h
  ·rename_i hs;cases h;have hw':=Bool.eq_false_iff.2 hw;have hs':=Bool.eq_false_iff.2 hs;have k0:(⟨0,false,false⟩:WS).ok (bs++[b]).length:=⟨Nat.zero_le _,fun hw=>by cases hw⟩
   have k3:=textsW_ok (countW (bs++[b]) 1 5 (expectW (bs++[b]) 42 ⟨0,false,false⟩)).1 _ [] (countW_ok (least:=1) (most:=5) (expectW_ok (c:=42) k0));have hpos:=k3.pos;rw[List.length_append]at hpos;refine .inr (.inl ⟨(textsR_plain _ _).1,(textsR_plain _ _).2,?_⟩);rw[textsR_used];by_cases hp:(textsW (bs++[b]) (countW (bs++[b]) 1 5 (expectW (bs++[b]) 42 ⟨0,false,false⟩)).1 (countW (bs++[b]) 1 5 (expectW (bs++[b]) 42 ⟨0,false,false⟩)).2 []).2.pos≤bs.length
   ·exfalso;obtain⟨e3,w2,s2⟩:=textsW_loc [b] _ _ [] hw' hs' hp;have p2:=Nat.le_trans (textsW_pos _ _ _) hp;obtain⟨e2,w1,s1⟩:=countW_loc [b] w2 s2 p2;have p1:=Nat.le_trans countW_pos p2;obtain⟨e1,_,_⟩:=expectW_loc [b] w1 s1 p1;unfold lsR at h0;simp only at h0;rw[e1,e2,e3,if_neg hw,if_neg hs]at h0;cases h0
   ·simp at hpos;omega
theorem frR_edge (h0:frR bs=none)(h:frR (bs++[b])=some t):EdgeAt bs.length b t:=by
 unfold frR at h;split at h
 ·cases h
 rename_i h7;split at h
 ·cases h;exact .inl ⟨rfl,rfl⟩
 rename_i hh;split at h
 ·cases h
 rename_i hl;split at h
 ·cases h;exact .inl ⟨rfl,rfl⟩
 rename_i hk;cases h;refine .inr (.inl ⟨rfl,rfl,?_⟩);show 7+byAt (bs++[b]) 2+numAt (bs++[b]) 3=bs.length+1;rw[List.length_append]at hl h7;simp only[List.length_cons,List.length_nil]at hl h7;by_cases hle:7+byAt (bs++[b]) 2+numAt (bs++[b]) 3≤bs.length
 ·exfalso;have hb7:7≤bs.length:=by omega
  rw[byAt_app (by omega),numAt_app (by omega)]at hle;rw[frHead_app hb7]at hh;rw[byAt_app (by omega),bytesOf_app (by omega)]at hk;unfold frR at h0;rw[if_neg (by omega),if_neg hh,if_neg (by omega),if_neg hk]at h0;cases h0
 ·omega
theorem ib_nil (c:UInt8):Go.Lib.indexByte [] c= -1:=rfl
theorem lnR_edge (h0:lnR bs=none)(h:lnR (bs++[b])=some t):EdgeAt bs.length b t:=by
 unfold lnR at h0;split at h0
 ·rename_i hi;obtain⟨i1,i2,_⟩:=ib_nonneg_app (bs.take 61) ([b].take (61-bs.length)) 10 hi;have ht:(bs++[b]).take 61=bs.take 61++[b].take (61-bs.length):=List.take_append;unfold lnR at h;rw[ht,i1,if_pos hi]at h;generalize (Go.Lib.indexByte (bs.take 61) 10).toNat=e at*;have he:e<bs.length:=by simp at i2;omega
  unfold lineR at h0 h;rw[List.take_append_of_le_length (by omega)]at h;split at h0
  ·rename_i size hs;rw[hs]at h;simp only at h;unfold setR at h0 h;split at h0
   ·cases h0
   rename_i h40;rw[if_neg h40]at h;split at h0
   ·rename_i hle;split at h
    ·cases h
    ·rename_i hle2;rw[List.length_append]at hle2;simp only[List.length_cons,List.length_nil]at hle2;have hn:e+1+size=bs.length:=by omega
     have hb:(bs++[b]).getD (e+1+size) 0=b:=by rw[hn];simp[List.getD]
     rw[hb]at h;split at h
     ·rename_i hb10;cases h;exact .inr (.inr ⟨rfl,rfl,.inr ⟨hn,hb10⟩⟩)
     ·cases h;exact .inr (.inl ⟨rfl,rfl,by show e+1+size+1=_;omega⟩)
   ·split at h0<;>cases h0
  ·split at h0<;>cases h0
 ·rename_i hi;split at h0
  ·cases h0
  ·rename_i hl;have e1:bs.take 61=bs:=List.take_of_length_le (by omega);have e2:(bs++[b]).take 61=bs++[b]:=List.take_of_length_le (by simp;omega);rw[e1]at hi;unfold lnR at h;rw[e2,ib_neg_app bs [b] 10 hi]at h;by_cases hb:b=10
   ·subst hb;have e3:Go.Lib.indexByte [10] 10=0:=by decide
    rw[e3]at h;rw[show(if(0:Int)≤0 then(bs.length:Int)+0 else-1)=(bs.length:Int)by simp,if_pos (by omega)]at h;have e4:((bs.length:Int)).toNat=bs.length:=by omega
    rw[e4]at h;unfold lineR at h;split at h
    ·unfold setR at h;split at h
     ·cases h;exact .inr (.inl ⟨rfl,rfl,rfl⟩)
     ·rw[if_pos (by simp)]at h;cases h
    ·split at h
     ·cases h;exact .inr (.inl ⟨rfl,rfl,rfl⟩)
     ·cases h;exact .inr (.inl ⟨rfl,rfl,rfl⟩)
   ·have e3:Go.Lib.indexByte [b] 10= -1:=by
     rw[ib_cons,ib_nil];simp[hb]
    rw[e3]at h;rw[show(if(0:Int)≤ -1 then(bs.length:Int)+ -1 else-1)= -1 by simp,if_neg (by omega)]at h;split at h
    ·rename_i hl2;rw[List.length_append]at hl2;simp only[List.length_cons,List.length_nil]at hl2;cases h;exact .inr (.inr ⟨rfl,rfl,.inl (by show 61=_;omega)⟩)
    ·cases h
theorem readR_edge (h0:readR d bs=none)(h:readR d (bs++[b])=some t):EdgeAt bs.length b t:=by
 unfold readR at h0 h;split at h
 ·rename_i h1;rw[if_pos h1]at h0;exact lnR_edge h0 h
 ·rename_i h1;rw[if_neg h1]at h0;split at h
  ·rename_i h2;rw[if_pos h2]at h0;exact frR_edge h0 h
  ·rename_i h2;rw[if_neg h2]at h0;exact lsR_edge h0 h
theorem passL_cons (h:b≠10)(l:List UInt8):passL (b::l)=passL l:=by
 have e:(passL [b]).2=true:=by
  unfold passL;rw[ib_cons,ib_nil];simp[h]
 have:=passL_app [b] l;rw[if_pos e]at this;exact this
def edgeS (t:StepR)(rest:List UInt8):St:=takeS ⟨[],t.skip,t.c.fatal⟩ rest
theorem after_edge {s:St}(hok:s.ok)(hn:n<s.held.length)(h0:readR d (s.held.take n)=none)(h:readR d (s.held.take (n+1))=some t):readR d s.held=some t∧afterS s t=edgeS t (s.held.drop (n+1)):=by
 have hs:s.held.take (n+1)++s.held.drop (n+1)=s.held:=List.take_append_drop _ _;have hr:readR d s.held=some t:=by
  have:=(readR_mono (s.held.drop (n+1)) h).1;rwa [hs]at this
 refine⟨hr,?_⟩;obtain⟨hc,hp⟩:=live hok hr;have e1:s.held.take (n+1)=s.held.take n++[s.held[n]]:=by rw[List.take_add_one,List.getElem?_eq_getElem hn];rfl
 have hl:(s.held.take n).length=n:=by simp;omega
 rw[e1]at h;have he:=readR_edge h0 h;rw[hl]at he;unfold edgeS afterS takeS;rcases he with⟨hf,hk⟩|⟨hf,hk,hu⟩|⟨hf,hk,hu⟩
 ·rw[if_pos hf,hf,hk];rfl
 ·rw[hf,hk,hu,hc,hp];rfl
 ·rw[hf,hk,hc];simp only[Bool.false_eq_true,if_false,if_true,List.nil_append]
  rcases hu with hu|⟨hu,hb⟩
  ·rw[hu]
  ·rw[hu,List.drop_eq_getElem_cons hn,passL_cons hb]
end Go.Proofs.YtlonjggfnleolaaGreatDoor
namespace Go.Proofs.YtlonjggfnleolaaGreatDoor
open Go.RowKit
set_option linter.unusedVariables false
set_option maxHeartbeats 4000000
set_option maxRecDepth 20000
variable {s:ByteArray}{k:Nat}
theorem getD_str (h:k<s.size):s.data.toList.getD k 0=s[k]:=by
 rw[List.getD,List.getElem?_eq_getElem (by simpa using h)];rfl
theorem byAt_str (h:k<s.size):byAt s.data.toList k=s[k].toNat:=by
 show(s.data.toList.getD k 0).toNat=_;rw[getD_str h]
theorem u8_ne {b c:UInt8}(h:¬b=c):((b.toNat:Int)==(c.toNat:Int))=false:=by
 rw[beq_eq_false_iff_ne];intro e;apply h;apply UInt8.toNat_inj.1;omega
def wrongV (word:ByteArray)(ft:Bool):Value:= .agg #[.int .i64 4,.slice none 0 0,.string ⟨#[]⟩,.string word,.bool ft,.int .i64 0]
theorem refwrong_any (word:ByteArray)(ft:Bool)(w:World):Calls Tryz.prog 182 #[.string word,.bool ft] w fun e w'=>e= .returned (wrongV word ft)∧Below w.heap.size w w':=by
 unfold wrongV;go_enter Tryz.func182,Tryz.ntmps182;go_wp2;refine bodyPost_ret (v:= .agg #[.int .i64 4,.slice none 0 0,.string ⟨#[]⟩,.string word,.bool ft,.int .i64 0]) (by simp[results,Tryz.results182,go_sem]) rfl ⟨rfl,?_⟩;repeat(first|with_reducible exact Below.refl _ _|with_reducible refine Below.drew ?_|with_reducible refine Below.alloc ?_ (by simp;try omega) _|with_reducible refine Below.setCell ?_ (by simp;try omega) _)
theorem ib_at (h:k<s.size)(h10:s[k]=10)(hn:¬0≤Go.Lib.indexByte (s.data.toList.take k) 10):Go.Lib.indexByte s.data.toList 10=(k:Int):=by
 have hk:k<s.data.toList.length:=by simpa using h
 have e:s.data.toList=s.data.toList.take k++10::s.data.toList.drop (k+1):=by
  have h1:s.data.toList.drop k=10::s.data.toList.drop (k+1):=by
   rw[List.drop_eq_getElem_cons hk];congr 1
  rw[←h1,List.take_append_drop]
 have hl:(s.data.toList.take k).length=k:=by rw[List.length_take];omega
 rw[e,ib_neg_app _ _ _ hn,hl];have e0:Go.Lib.indexByte (10::s.data.toList.drop (k+1)) 10=0:=by rw[ib_cons];simp
 rw[e0];simp
theorem ib_no (h:k<s.size)(h10:¬s[k]=10)(hn:¬0≤Go.Lib.indexByte (s.data.toList.take k) 10):¬0≤Go.Lib.indexByte (s.data.toList.take (k+1)) 10:=by
 rw[take_snoc s k h,ib_neg_app _ _ _ hn];have e0:Go.Lib.indexByte [s[k]] 10= -1:=by rw[ib_cons,ib_nil];simp[h10]
 rw[e0];simp
theorem refend_any (s:ByteArray)(w:World)(hs:s.size≤maxLen):Calls Tryz.prog 181 #[.string s] w fun e w'=>e= .returned (.int .i64 (Go.Lib.indexByte s.data.toList 10))∧w'=w:=by
 unfold maxLen at hs;go_enter Tryz.func181,Tryz.ntmps181;go_wp2;go_loop [3] (fun i=>∃k:Nat,k≤s.size∧i= .int .i64 k∧Hid (¬0≤Go.Lib.indexByte (s.data.toList.take k) 10)) (fun i=>s.size-(intOf i).toNat)
 case atStart=>exact⟨0,Nat.zero_le _,rfl,(by show¬0≤_;rw[List.take_zero,ib_nil];decide)⟩
 case round=>
  obtain⟨k,hk,rfl,hno⟩:=hrel;by_cases hlt:k<s.size
  ·by_cases h10:s[k]=10
   ·have HR:=hide' (ib_at hlt h10 hno.out);go_wp2;go_ret;exact⟨ret_int HR.out.symm,rfl⟩
   ·have HN:=hide' (ib_no hlt h10 hno.out);have hb:=u8_ne h10;have hb':((s[k].toNat:Int)==10)=false:=hb;go_wp2;go_round
    case rel=>exact⟨k+1,by omega,by go_num,HN⟩
    case measure=>simp[intOf];omega
  ·have hk2:k=s.size:=by omega
   subst hk2;have HR:Hid (Go.Lib.indexByte s.data.toList 10= -1):=by
    have h:=hno.out;rw[List.take_of_length_le (by simp)]at h;have:=Go.Lib.indexByte_ge s.data.toList 10;show _=_;omega
   go_wp2;go_ret;exact⟨ret_int HR.out.symm,rfl⟩
def cntI (r:Option Nat):Int:=match r with|none=> -1|some n=>n
theorem one48 (h1:s.size=1)(h:0<s.size)(h0:s[0]=48):s=⟨#[48]⟩:=by
 obtain⟨d⟩:=s;have:d.size=1:=h1;have e:d=#[48]:=by
  apply Array.ext
  ·simpa using this
  ·intro i hi hj;have:i=0:=by omega
   subst this;exact h0
 rw[e]
theorem refcount_any (s:ByteArray)(w:World)(hs:s.size≤maxLen):Calls Tryz.prog 184 #[.string s] w fun e w'=>e= .returned (.int .i64 (cntI (countS s)))∧w'=w:=by
 unfold maxLen at hs;have HS:Hid (countS s=if s.size<1∨3<s.size∨(1<s.size∧s.data.toList.getD 0 0=48)then none else if s.data.toList.all digB then some (digsTo s.data.toList)else none):=rfl;generalize countS s=R at*;by_cases h1:s.size<1
 ·have hR:R=none:=by rw[HS.out];simp[h1]
  subst hR;have h0:s=⟨#[]⟩:=by
   obtain⟨d⟩:=s;have:d.size=0:=by have h1:d.size<1:=h1;omega
   rw[Array.eq_empty_of_size_eq_zero this]
  subst h0;clear h1;go_enter Tryz.func184,Tryz.ntmps184;go_wp2;go_ret;exact⟨rfl,rfl⟩
 have hne:(s.toList== [])=false:=by
  have:=eqB (s:=s) [] (by intro e;rw[e]at h1;exact h1 (by decide));exact this
 by_cases h3:3<s.size
 ·have hR:R=none:=by rw[HS.out];simp[h3]
  subst hR;have h3':(3:Int)<s.size:=by omega
  go_enter Tryz.func184,Tryz.ntmps184;go_wp2;go_ret;exact⟨rfl,rfl⟩
 have hz:0<s.size:=by omega
 have h0:s.data.toList.getD 0 0=s[0]:=getD_str hz;have h3':¬(3:Int)<s.size:=by omega
 by_cases h4:1<s.size∧s[0]=48
 ·have hR:R=none:=by rw[HS.out,if_pos];exact .inr (.inr ⟨h4.1,h0.trans h4.2⟩)
  subst hR;obtain⟨h4a,h4b⟩:=h4;have hn1:=eqB (s:=s) [48] (by intro e;rw[e]at h4a;exact absurd h4a (by decide));go_enter Tryz.func184,Tryz.ntmps184;go_wp2;go_ret;exact⟨rfl,rfl⟩
 have HR:Hid (R=if s.data.toList.all digB then some (digsTo s.data.toList)else none):=by
  show _=_;rw[HS.out,if_neg];rw[h0];rintro (h|h|h)
  ·exact h1 h
  ·exact h3 h
  ·exact h4 h
 clear HS;have HL:Hid (∀l:List UInt8,l.all digB=true→digsTo l<10 ^ l.length):=digsTo_lt;by_cases h5:s[0]=48;case' pos=>
  have h6:s=⟨#[48]⟩:=one48 (by have:¬1<s.size:=fun hh=>h4 ⟨hh,h5⟩;omega) hz h5
  have h7:(s.toList== [48])=true:=by rw[h6,ByteArray.toList_eq];rfl
  clear h6
 case' neg=>
  have h7:((s[0].toNat:Int)==48)=false:=u8_ne h5
 all_goals
  go_enter Tryz.func184,Tryz.ntmps184
  go_wp2
  go_loop [3,4] (fun m i=>∃k:Nat,k≤s.size∧i= .int .i64 k∧m= .int .i64 (digsTo (s.data.toList.take k))∧Hid ((s.data.toList.take k).all digB=true)) (fun _ i=>s.size-(intOf i).toNat)
  case atStart=>exact⟨0,Nat.zero_le _,rfl,rfl,by show _=_;simp⟩
  case round=>
   obtain⟨k,hk,rfl,rfl,HA⟩:=hrel;have hb2:digsTo (s.data.toList.take k)<1000:=Nat.lt_of_lt_of_le (HL.out _ HA.out) (by
    have:(s.data.toList.take k).length≤3:=by simp;omega
    exact Nat.pow_le_pow_right (n:=10) (by decide) this)
   by_cases hlt:k<s.size
   ·cases hb:digB s[k]with
    |true=>
     have hd:=hb;simp only[digB,Bool.and_eq_true,decide_eq_true_eq]at hd;obtain⟨hd1,hd2⟩:=hd;have HT:Hid (digsTo (s.data.toList.take (k+1))=digsTo (s.data.toList.take k)*10+(s[k].toNat-48)):=by show _=_;rw[take_snoc s k hlt,digsTo_snoc]
     have HA2:Hid ((s.data.toList.take (k+1)).all digB=true):=by show _=_;rw[take_snoc s k hlt];simp[HA.out,hb]
     generalize digsTo (s.data.toList.take k)=D at*;clear hb;go_wp2;go_round
     case rel=>exact⟨k+1,by omega,by go_num,by rw[HT.out];go_num,HA2⟩
     case measure=>simp[intOf];omega
    |false=>
     have hR:R=none:=by rw[HR.out,all_at hlt hb];rfl
     subst hR;have hd:¬(48≤(s[k].toNat:Int)∧(s[k].toNat:Int)≤57):=by
      intro h;simp[digB,h.1,h.2]at hb
     clear hb;by_cases hd1:(s[k].toNat:Int)<48
     ·go_wp2;go_ret;exact⟨rfl,rfl⟩
     ·have hd2:(57:Int)<s[k].toNat:=by omega
      go_wp2;go_ret;exact⟨rfl,rfl⟩
   ·have hk2:k=s.size:=by omega
    subst hk2;have e1:s.data.toList.take s.size=s.data.toList:=List.take_of_length_le (by simp);have HR2:Hid (R=some (digsTo (s.data.toList.take s.size))):=by show _=_;have hA:=HA.out;rw[e1]at hA⊢;rw[HR.out,if_pos hA]
    clear HR;generalize digsTo (s.data.toList.take s.size)=D at*;go_wp2;go_ret;exact⟨by rw[HR2.out];rfl,rfl⟩
def numR (r:Nat×WS):Int×Int:=if r.2.wrong then(0,-2)else if r.2.short then(0,-1)else(r.1,r.2.pos)
def badN (lo hi:Nat)(b:UInt8)(n:Nat)(first:Bool):Prop:=digB b=false∨hi<n*10+(b.toNat-48)∨(first=true∧b.toNat-48<lo)∨(first=false∧n=0)
theorem countF_at {lo hi q n:Nat}{first:Bool}(h:q<s.size):(first=false→s[q]=10→countF s.data.toList lo hi (s.size-q) q n first=(n,⟨q+1,false,false⟩))∧(¬(first=false∧s[q]=10)→badN lo hi s[q] n first→countF s.data.toList lo hi (s.size-q) q n first=(0,⟨q,true,false⟩))∧(¬(first=false∧s[q]=10)→¬badN lo hi s[q] n first→countF s.data.toList lo hi (s.size-q) q n first=countF s.data.toList lo hi (s.size-(q+1)) (q+1) (n*10+(s[q].toNat-48)) false):=by
 obtain⟨f,hf⟩:∃f,s.size-q=f+1:=⟨s.size-q-1,by omega⟩
 have hf2:s.size-(q+1)=f:=by omega
 rw[hf,hf2];have e1:=getD_str h;have e2:=byAt_str h;refine⟨fun h1 h2=>?_,fun h1 h2=>?_,fun h1 h2=>?_⟩
 ·unfold countF;rw[e1,if_pos ⟨h1,h2⟩]
 ·unfold countF;unfold badN at h2;rw[e1,e2,if_neg h1,if_pos h2]
 ·conv=>lhs;unfold countF
  unfold badN at h2;rw[e1,e2,if_neg h1,if_neg h2]
theorem refnumber_any (s:ByteArray)(p lo hi:Nat)(w:World)(hs:s.size≤maxLen)(hp:p≤s.size)(hlo:lo≤1)(hhi:hi≤40):Calls Tryz.prog 185 #[.string s,.int .i64 (p:Int),.int .i64 (lo:Int),.int .i64 (hi:Int)] w fun e w'=>e= .returned (.tuple #[.int .i64 (numR (countF s.data.toList lo hi (s.size-p) p 0 true)).1,.int .i64 (numR (countF s.data.toList lo hi (s.size-p) p 0 true)).2])∧w'=w:=by
 unfold maxLen at hs;have HR0:Hid (countF s.data.toList lo hi (s.size-p) p 0 true=countF s.data.toList lo hi (s.size-p) p 0 true):=(show _=_ from rfl)
 generalize hRR:countF s.data.toList lo hi (s.size-p) p 0 true=R at*;have HR:Hid (countF s.data.toList lo hi (s.size-p) p 0 true=R):=hRR;clear HR0 hRR;go_enter Tryz.func185,Tryz.ntmps185;go_wp2;go_loop [1,10,11] (fun a n d=>∃(q m k:Nat),a= .int .i64 q∧n= .int .i64 m∧d= .int .i64 k∧q≤s.size∧m≤40∧k≤q∧Hid (k=0→m=0)∧Hid (countF s.data.toList lo hi (s.size-q) q m (decide (k=0))=R)) (fun a _ _=>s.size-(intOf a).toNat)
 case atStart=>exact⟨p,0,0,rfl,rfl,rfl,hp,by omega,by omega,fun _=>rfl,HR⟩
 case round=>
  obtain⟨q,m,k,rfl,rfl,rfl,hq,hm,hkq,HK,HC⟩:=hrel;by_cases hlt:q<s.size
  ·obtain⟨F1,F2,F3⟩:=countF_at (lo:=lo) (hi:=hi) (n:=m) (first:=decide (k=0)) hlt;have HF:=hide' (And.intro F1 (And.intro F2 F3));clear F1 F2 F3;have hb256:s[q].toNat<256:=UInt8.toNat_lt _;by_cases h10:s[q]=10
   ·by_cases hk0:k=0
    ·
     have hR:R=(0,⟨q,true,false⟩):=by
      rw[←HC.out];exact HF.out.2.1 (by rintro ⟨h,_⟩;simp[hk0]at h) (.inl (by rw[h10];decide))
     subst hR
     subst hk0
     clear HF HC HK HR
     go_wp2
     go_ret2
     exact⟨rfl,rfl⟩
    ·have hR:R=(m,⟨q+1,false,false⟩):=by
      rw[←HC.out];exact HF.out.1 (by simp[hk0]) h10
     subst hR;have hk1:(0:Int)<k:=by omega
     clear HF HC HK HR;go_wp2;go_ret2;exact⟨by simp[numR],rfl⟩
   ·have hb10:((s[q].toNat:Int)==10)=false:=u8_ne h10;have hn10:¬(decide (k=0)=false∧s[q]=10):=fun h=>h10 h.2
    cases hd:digB s[q]with
    |false=>
     have hR:R=(0,⟨q,true,false⟩):=by
      rw[←HC.out];exact HF.out.2.1 hn10 (.inl hd)
     subst hR;have hd':¬(48≤(s[q].toNat:Int)∧(s[q].toNat:Int)≤57):=by
      intro h;simp[digB,h.1,h.2]at hd
     clear HF HC HK HR hd hn10;by_cases hd1:(s[q].toNat:Int)<48
     ·go_wp2;all_goals(go_ret2;exact⟨rfl,rfl⟩)
     ·have hd2:(57:Int)<s[q].toNat:=by omega
      go_wp2;all_goals(go_ret2;exact⟨rfl,rfl⟩)
    |true=>
     have hdd:=hd;simp only[digB,Bool.and_eq_true,decide_eq_true_eq]at hdd;obtain⟨hd1,hd2⟩:=hdd;have g1:¬(s[q].toNat:Int)<48:=by omega
     have g2:¬(57:Int)<s[q].toNat:=by omega
     have wx:IntKind.i64.wrap (((s[q].toNat:Int)-48))=(s[q].toNat:Int)-48:=wrap_small _ (by omega) (by omega);by_cases hk0:k=0
     ·have hm0:m=0:=HK.out hk0;subst hm0;subst hk0;by_cases hhi2:hi<s[q].toNat-48
      ·have hR:R=(0,⟨q,true,false⟩):=by
        rw[←HC.out];exact HF.out.2.1 hn10 (.inr (.inl (by omega)))
       subst hR;have i1:(hi:Int)<(s[q].toNat:Int)-48:=by omega
       clear HF HC HK HR hd hn10;go_wp2;all_goals(go_ret2;exact⟨rfl,rfl⟩)
      ·have i1:¬(hi:Int)<(s[q].toNat:Int)-48:=by omega
       by_cases hlo2:s[q].toNat-48<lo
       ·have hR:R=(0,⟨q,true,false⟩):=by
         rw[←HC.out];exact HF.out.2.1 hn10 (.inr (.inr (.inl ⟨rfl,hlo2⟩)))
        subst hR;have i2:(s[q].toNat:Int)-48<(lo:Int):=by omega
        clear HF HC HK HR hd hn10;go_wp2;all_goals(go_ret2;exact⟨rfl,rfl⟩)
       ·have i2:¬(s[q].toNat:Int)-48<(lo:Int):=by omega
        have HN:Hid (countF s.data.toList lo hi (s.size-(q+1)) (q+1) (s[q].toNat-48) (decide (1=0))=R):=by
         show _=_;rw[←HC.out,HF.out.2.2 hn10 (by
          rintro (h|h|h|h)
          ·rw[hd]at h;cases h
          ·omega
          ·omega
          ·cases h.1)]
         simp
        clear HF HC HK hd hn10;go_wp2;all_goals go_round
        case rel=>exact⟨q+1,s[q].toNat-48,1,by go_num,by go_num,by go_num,by omega,by omega,by omega,fun h=>by omega,HN⟩
        case measure=>simp[intOf];omega
     ·have hk1:(0:Int)<k:=by omega
      have hkd:decide (k=0)=false:=by simp[hk0]
      by_cases hm0:m=0
      ·have hR:R=(0,⟨q,true,false⟩):=by
        rw[←HC.out];exact HF.out.2.1 hn10 (.inr (.inr (.inr ⟨hkd,hm0⟩)))
       subst hR;subst hm0;clear HF HC HK HR hd hn10 hkd;go_wp2;all_goals(go_ret2;exact⟨rfl,rfl⟩)
      ·have hm1:((m:Int)==0)=false:=by rw[beq_eq_false_iff_ne];omega
       by_cases hhi2:hi<m*10+(s[q].toNat-48)
       ·have hR:R=(0,⟨q,true,false⟩):=by
         rw[←HC.out];exact HF.out.2.1 hn10 (.inr (.inl hhi2))
        subst hR;have i1:(hi:Int)<10*(m:Int)+((s[q].toNat:Int)-48):=by omega
        clear HF HC HK HR hd hn10 hkd;go_wp2;all_goals(go_ret2;exact⟨rfl,rfl⟩)
       ·have i1:¬(hi:Int)<10*(m:Int)+((s[q].toNat:Int)-48):=by omega
        have i2:¬10*(m:Int)+((s[q].toNat:Int)-48)<(lo:Int):=by omega
        have HN:Hid (countF s.data.toList lo hi (s.size-(q+1)) (q+1) (m*10+(s[q].toNat-48)) (decide (k+1=0))=R):=by
         show _=_;rw[←HC.out,HF.out.2.2 hn10 (by
          rintro (h|h|h|h)
          ·rw[hd]at h;cases h
          ·omega
          ·rw[hkd]at h;cases h.1
          ·omega)]
         simp
        clear HF HC HK hd hn10 hkd;go_wp2;all_goals go_round
        case rel=>exact⟨q+1,m*10+(s[q].toNat-48),k+1,by go_num,by go_num,by go_num,by omega,by omega,by omega,fun h=>by omega,HN⟩
        case measure=>simp[intOf];omega
  ·have hq2:q=s.size:=by omega
   subst hq2;have hR:R=(0,⟨s.size,false,true⟩):=by rw[←HC.out,Nat.sub_self];rfl
   subst hR;clear HC HK HR;go_wp2;go_ret2;exact⟨rfl,rfl⟩
set_option maxHeartbeats 4000000
set_option maxRecDepth 20000
variable {w w' W:World}{cap T R:Nat}{ss:List ByteArray}
theorem info9:∃i,Tryz.prog.info? 9=some i∧i.zero=some (.string ⟨#[]⟩)∧i.size=1∧i.bytes=16:=by
 have h:(Tryz.prog.info? 9).map (fun i=>(i.zero,i.size,i.bytes))=some (some (.string ⟨#[]⟩),1,16):=by kernel_rfl
 cases hi:Tryz.prog.info? 9 with
 |none=>rw[hi]at h;cases h
 |some i=>
  rw[hi]at h;simp only[Option.map_some,Option.some.injEq,Prod.mk.injEq]at h;exact⟨i,rfl,h.1,h.2.1,h.2.2⟩
theorem owns_texts {base g m:Nat}{ks:List ByteArray}(hk:ks.length=m)(hm:0<m)(h:w.ownsRow base 9 1 (.slice (some ⟨g,0,none⟩) m cap) m (ks.map Value.string)):TextsAt w g cap ks∧base≤g:=by
 obtain⟨_,h|⟨g',cap',cur,e,hb,hh,hn,hc,hs,ht⟩⟩:=h
 ·omega
 ·cases e;refine⟨⟨cur,hh,by omega,by omega,fun i x hx=>?_⟩,hb⟩;have hi:i<ks.length:=(List.getElem?_eq_some_iff.1 hx).1;have:(cur.toList.take (m*1))[i]?=some (.string x):=by rw[ht,List.getElem?_map,hx];rfl
  rw[List.getElem?_take_of_lt (by omega)]at this;simpa using this
theorem texts_strs (h:TextsAt w T cap ss)(hl:ss.length≤140737488355328)(hs:∀s∈ss,s.size≤maxLen):StrsAt w (.slice (some ⟨T,0,none⟩) ss.length cap) ss:=by
 obtain⟨Z,hZ,hz,hc,hi⟩:=h;refine⟨.inl ⟨T,0,cap,rfl,blkLt hZ,fun i s hs'=>?_⟩,hl,hs⟩;rw[Nat.zero_add,blkCell hZ i];exact hi i s hs'
theorem grown_below (h:w.grownBy w' none):Below w.heap.size w w':=⟨h.os,h.tape,h.output,h.size,fun k hk=>h.block k hk (by simp)⟩
theorem TextsAt.later (h:TextsAt w T cap ss)(hb:Below w.heap.size w w'):TextsAt w' T cap ss:=by
 obtain⟨Z,hZ,h⟩:=h;exact⟨Z,(hb.block T (blkLt hZ)).trans hZ,h⟩
theorem TextsAt.lt (h:TextsAt w T cap ss):T<w.heap.size:=by
 obtain⟨Z,hZ,h⟩:=h;exact blkLt hZ
theorem TextsAt.other (h:TextsAt w T cap ss)(hb:w'.heap[T]?=w.heap[T]?):TextsAt w' T cap ss:=by
 obtain⟨Z,hZ,h⟩:=h;exact⟨Z,hb.trans hZ,h⟩
theorem set8_other {k:Nat}(hk:k≠R)(a b c d e f g i:Value):((((((((w.setCell ⟨R,0,none⟩ a).setCell ⟨R,1,none⟩ b).setCell ⟨R,2,none⟩ c).setCell ⟨R,3,none⟩ d).setCell ⟨R,4,none⟩ e).setCell ⟨R,5,none⟩ f).setCell ⟨R,6,none⟩ g).setCell ⟨R,7,none⟩ i).heap[k]?=w.heap[k]?:=setOther hk _ _ _ _ _ _ _ _
structure CCells (W:World)(C:Nat)(k:Int)(kv:Value)(val:ByteArray):Prop where
 all:W.cell? ⟨C,0,none⟩=some (.int .i64 k)∧W.cell? ⟨C,1,none⟩=some kv∧W.cell? ⟨C,2,none⟩=some (.string val)∧W.cell? ⟨C,3,none⟩=some (.string ⟨#[]⟩)∧W.cell? ⟨C,4,none⟩=some (.bool false)∧W.cell? ⟨C,5,none⟩=some (.int .i64 0)
 free:∀i,W.frozen? ⟨C,i,none⟩=false
theorem ccells_of {C:Nat}{k:Int}{kv:Value}{val:ByteArray}(h:W.heap[C]?=some (.cells #[.int .i64 k,kv,.string val,.string ⟨#[]⟩,.bool false,.int .i64 0] 36 (0,0))):CCells W C k kv val:=
 ⟨⟨blkCell h 0,blkCell h 1,blkCell h 2,blkCell h 3,blkCell h 4,blkCell h 5⟩,blkFree h⟩
theorem zcells_of (h:W.heap[R]?=some (.cells #[.int .i64 0,.slice none 0 0,.string ⟨#[]⟩,.string ⟨#[]⟩,.bool false,.int .i64 0,.int .i64 0,.bool false] 255 (0,0))):ZCells W R:=
 ⟨⟨blkCell h 0,blkCell h 1,blkCell h 2,blkCell h 3,blkCell h 4,blkCell h 5,blkCell h 6,blkCell h 7⟩,blkFree h⟩
theorem two_kept {w1:World}{A B:Obj}(h:Below ((w.alloc A).alloc B).heap.size ((w.alloc A).alloc B) w1):w1.heap[w.heap.size]?=some A∧w1.heap[w.heap.size+1]?=some B:=by
 refine⟨(h.block _ (by simp;omega)).trans ((Below.heap_alloc _ _ _ (by simp)).trans (blkNew w A)),(h.block _ (by simp)).trans ?_⟩;have:=blkNew (w.alloc A) B;rw[World.size_alloc]at this;exact this
theorem readTexts_plain (T:Nat)(x:ByteArray)(ks:List ByteArray)(m u:Nat)(w:World)(hm:ks.length=m)(hT:TextsAt w T 5 (x::ks))(h1:1≤m)(h5:m≤4)(hs:∀s∈ks,s.size≤maxLen)(hk:kindB x≠2):Calls Tryz.prog 256 #[.slice (some ⟨T,0,none⟩) (m+1) 5,.int .i64 (u:Int)] w fun e w'=>StepOut w w' (some (textsR (x::ks) u)) e∧Below w.heap.size w w':=by
 have hR:textsR (x::ks) u=if cmdB (kindB x) ks noB then⟨⟨kindB x,ks,noB,noB,false,0⟩,u,false⟩else⟨wrongC dataB false,u,false⟩:=by
  unfold textsR;simp only[List.getD_cons_zero,List.drop_succ_cons,List.drop_zero,hk,if_false,false_and]
 have HR:=hide' hR;clear hR;obtain⟨i9,hi,hz0,hz1,hz2⟩:=info9;have HI:=hide' (And.intro hi (And.intro hz0 (And.intro hz1 hz2)));clear hi hz0 hz1 hz2;have hlt:=hT.lt;have hlt1:T<w.heap.size+1:=by omega
 have hlt2:T<w.heap.size+1+1:=by omega
 have HT:=hide' hT;obtain⟨Z,hZ,hzs,hzl,hzi⟩:=hT;have c0:w.cell? ⟨T,0,none⟩=some (.string x):=by rw[blkCell hZ 0];exact hzi 0 x rfl
 have HC:Hid (∀j s,ks[j]?=some s→w.cell? ⟨T,1+j,none⟩=some (.string s)):=fun j s h=>by
  rw[blkCell hZ (1+j),Nat.add_comm];exact hzi (j+1) s (by simpa using h)
 clear hZ hzs hzl hzi Z;have hkn:(kindB x==2)=false:=by simpa using hk
 have HM:=hide' hm;clear hm hk;generalize hgk:kindB x=k at*;have HX:=hide' (show∀W:World,Calls Tryz.prog 224 #[.string x] W fun e w'=>e= .returned (.int .i64 k)∧w'=W from fun W=>by rw[←hgk];exact kindOf_any x W);clear hgk;go_enter Tryz.func256,Tryz.ntmps256;have HN:Hid (∀(a b:Obj) (j:Nat) (v:Value),(ks.map Value.string)[j]?=some v→((w.alloc a).alloc b).cell? ((⟨T,1,none⟩:Addr).add j)=some v):=fun a b j v hv=>by
  have hadd:(⟨T,1,none⟩:Addr).add j=⟨T,1+j,none⟩:=by unfold Addr.add;split<;>simp_all
  rw[List.getElem?_map]at hv;cases hj:ks[j]?with
  |none=>rw[hj]at hv;cases hv
  |some s=>
   rw[hj]at hv;cases hv;have hb:Below w.heap.size w ((w.alloc a).alloc b):=((Below.refl _ _).alloc (Nat.le_refl _) _).alloc (by simp) _;rw[hadd];exact(hb.cell (p:=⟨T,1+j,none⟩) hlt).trans (HC.out j s hj)
 have HO:Hid (∀u∈ks.map Value.string,u.oneCell'=true):=fun u hu=>by
  obtain⟨s,_,rfl⟩:=List.mem_map.1 hu;rfl
 go_wp2_with (first
  |(go_at_call 224;refine(HX.out _).mono ?_;rintro e w' ⟨rfl,rfl⟩)
  |(at_builtin;refine wpList_append_lies _ rfl _ _ _ rfl w.heap.size 9 i9 (.string ⟨#[]⟩) 1 16 Tryz.underlying34 HI.out.1 HI.out.2.1 HI.out.2.2.1 HI.out.2.2.2 rfl (by omega) (.slice none 0 0) 0 [] rfl (World.ownsRow_nil _ _ _ _) ⟨T,1,none⟩ m 4 (ks.map Value.string) rfl (by rw[List.length_map,HM.out];omega) (HN.out _ _) HO.out (by omega) (by unfold maxLen;omega) (by omega) (by simp;omega) _ rfl ?_;intro g cap w1 hown hgrow hat hlt3;have hB1:=grown_below hgrow;have HF:=hide' (And.intro hown (And.intro hB1 hat));obtain⟨hRb,hCb⟩:=two_kept hB1;obtain⟨⟨r0,r1,r2,r3,r4,r5,r6,r7⟩,rf⟩:=zcells_of hRb;obtain⟨⟨k0,k1,k2,k3,k4,k5⟩,kf⟩:=ccells_of hCb;have hz1:=blkLt hCb;have HRC:=hide' (And.intro hRb hCb);clear hown hgrow hat hB1 hRb hCb)
  |fail)
 have hg:g=w.heap.size+1+1:=by
  rcases HF.out.2.2 with h|h
  ·cases h
  ·simpa using h
 have hTx:TextsAt w1 g cap ks:=by
  have:=HF.out.1;rw[Nat.zero_add,List.nil_append]at this;exact(owns_texts HM.out (by omega) this).1
 have hTx2:=hTx.other (w':=w1.setCell ⟨w.heap.size+1,1,none⟩ (.slice (some ⟨g,0,none⟩) m cap)) (Below.heap_setCell _ _ _ _ (by show g≠w.heap.size+1;omega));have hS:=texts_strs hTx2 (by rw[HM.out];omega) hs;rw[HM.out]at hS;have hbel:Below w.heap.size w w1:=(((Below.refl _ _).alloc (Nat.le_refl _) _).alloc (by simp) _).trans (HF.out.2.1.mono (by simp;omega));have hbel2:Below w.heap.size w (w1.setCell ⟨w.heap.size+1,1,none⟩ (.slice (some ⟨g,0,none⟩) m cap)):=hbel.setCell (p:=⟨w.heap.size+1,1,none⟩) (by show w.heap.size≤w.heap.size+1;omega) _;have hRb2:(w1.setCell ⟨w.heap.size+1,1,none⟩ (.slice (some ⟨g,0,none⟩) m cap)).heap[w.heap.size]?=some (.cells #[.int .i64 0,.slice none 0 0,.string ⟨#[]⟩,.string ⟨#[]⟩,.bool false,.int .i64 0,.int .i64 0,.bool false] 255 (0,0)):=(Below.heap_setCell _ ⟨w.heap.size+1,1,none⟩ _ _ (by show w.heap.size≠w.heap.size+1;omega)).trans HRC.out.1
 have hCb2:=blkSet (i:=1) HRC.out.2 (.slice (some ⟨g,0,none⟩) m cap);have HCM:=hide' (cmd_any k _ ks ⟨#[]⟩ ⟨#[]⟩ false 0 _ hS (by decide));clear hS r0 r1 r2 r3 r4 r5 r6 r7 rf k0 k1 k2 k3 k4 k5 kf HC HN HX c0;clear HF HRC hTx hbel HT HI HO;generalize hW2:w1.setCell ⟨w.heap.size+1,1,none⟩ (.slice (some ⟨g,0,none⟩) m cap)=w2 at*;clear hW2;unfold cmdV6 at HCM;refine HCM.out.mono ?_;rintro e w3 ⟨rfl,hb3⟩;have hR3:=(hb3.block _ (blkLt hRb2)).trans hRb2;have hC3:=(hb3.block _ (blkLt hCb2)).trans hCb2;have hT3:=hTx2.later hb3;have hB3:=hbel2.trans (hb3.mono hbel2.size);have HK:=hide' (And.intro hR3 (And.intro hC3 (And.intro hT3 hB3)));obtain⟨⟨r0,r1,r2,r3,r4,r5,r6,r7⟩,rf⟩:=zcells_of hR3;obtain⟨⟨k0,k1,k2,k3,k4,k5⟩,kf⟩:=ccells_of hC3
 have hz3:=blkLt hC3;clear hb3 hR3 hC3 hT3 hB3 hRb2 hCb2 hTx2 hbel2 HCM;have hcb:Hid (cmdB k ks noB=cmdB k ks ⟨#[]⟩):=(show _=_ from rfl)
 cases hcm:cmdB k ks ⟨#[]⟩with
 |false=>
  go_wp2_with fail
  go_at_call 218;refine(wrong_any _ _ _).mono ?_;rintro e w4 ⟨rfl,hb4⟩;have hR4:=(hb4.block _ (blkLt HK.out.1)).trans HK.out.1;have hB4:=HK.out.2.2.2.trans (hb4.mono HK.out.2.2.2.size);obtain⟨⟨s0,s1,s2,s3,s4,s5,s6,s7⟩,sf⟩:=zcells_of hR4;have H4:=hide' hB4;clear hb4 hR4 hB4 r0 r1 r2 r3 r4 r5 r6 r7 rf k0 k1 k2 k3 k4 k5 kf;unfold stepV;go_wp2;refine bodyPost_ret (v:=stepV 4 (.slice none 0 0) ⟨#[]⟩ dataB false 0 u false) (by simp[results,Tryz.results256,go_sem,stepV,dataB,s0,s1,s2,s3,s4,s5,s6,s7]) rfl ⟨?_,?_⟩
  ·rw[HR.out,hcb.out,hcm,if_neg (by simp)];exact⟨_,rfl,.inl ⟨rfl,rfl⟩⟩
  ·exact set8 H4.out (Nat.le_refl _) _ _ _ _ _ _ _ _
 |true=>
  go_wp2;refine bodyPost_ret (v:=stepV k (.slice (some ⟨g,0,none⟩) m cap) ⟨#[]⟩ ⟨#[]⟩ false 0 u false) (by simp[results,Tryz.results256,go_sem,stepV,r0,r1,r2,r3,r4,r5,r6,r7]) rfl ⟨?_,?_⟩
  ·rw[HR.out,hcb.out,hcm,if_pos rfl];refine⟨_,rfl,.inr ⟨g,cap,by rw[HM.out],by omega,HK.out.2.2.1.other ?_⟩⟩;exact set8_other (by omega) _ _ _ _ _ _ _ _
  ·exact set8 HK.out.2.2.2 (Nat.le_refl _) _ _ _ _ _ _ _ _
set_option maxHeartbeats 4000000
set_option maxRecDepth 20000
variable {s:ByteArray}{f k base e size n:Nat}{acc:List ByteArray}{w:World}{v:Value}{xs:List Value}
theorem splitL_nob:∀(l:List UInt8),(∀b∈l,b≠32)→splitL l=[l]:=by
 intro l;induction l with
 |nil=>intro _;rfl
 |cons b l ih=>
  intro h;have hb:=h b (by simp);rw[splitL,if_neg hb,ih (fun c hc=>h c (by simp[hc]))]
theorem splitL_bl:∀(l m:List UInt8),(∀b∈l,b≠32)→splitL (l++32::m)=l::splitL m:=by
 intro l;induction l with
 |nil=>intro m _;simp[splitL]
 |cons b l ih=>
  intro m h;have hb:=h b (by simp);rw[List.cons_append,splitL,if_neg hb,ih m (fun c hc=>h c (by simp[hc]))]
theorem splitL_ne' (l:List UInt8):splitL l≠[]:=by
 cases l with
 |nil=>simp[splitL]
 |cons b l=>
  rw[splitL];split
  ·simp
  ·split<;>simp
theorem splitL_len' (l:List UInt8):(splitL l).length≤l.length+1:=by
 induction l with
 |nil=>simp[splitL]
 |cons b l ih=>
  rw[splitL];split
  ·simp;omega
  ·split
   ·rename_i h t e;rw[e]at ih;simp at ih⊢;omega
   ·simp
theorem extract_mkB (s:ByteArray)(f k:Nat):s.extract f k=mkB ((s.data.toList.drop f).take (k-f)):=by
 unfold mkB;apply ByteArray.ext;rw[ByteArray.data_extract];apply Array.ext';rw[Array.toList_extract]
structure SplitAt (bs:List UInt8)(f k:Nat)(acc:List ByteArray):Prop where
 le:f≤k
 many:acc.length≤f
 nob:∀b∈(bs.drop f).take (k-f),b≠32
 all:wordsOf bs=acc++wordsOf (bs.drop f)
theorem SplitAt.start (bs:List UInt8):SplitAt bs 0 0 []:=⟨Nat.le_refl _,Nat.le_refl _,fun b hb=>by simp at hb,rfl⟩
theorem SplitAt.blank (h:SplitAt s.data.toList f k acc)(hk:k<s.size)(hb:s[k]=32):SplitAt s.data.toList (k+1) (k+1) (acc++[s.extract f k]):=by
 obtain⟨h1,h2,h3,h4⟩:=h;refine⟨Nat.le_refl _,by simp;omega,fun b hb=>by simp at hb,?_⟩;have hk':k<s.data.toList.length:=by simpa using hk
 have e:s.data.toList.drop f=(s.data.toList.drop f).take (k-f)++32::s.data.toList.drop (k+1):=by
  conv=>lhs;rw[←List.take_append_drop (k-f) (s.data.toList.drop f)]
  rw[List.drop_drop,show f+(k-f)=k by omega,List.drop_eq_getElem_cons hk'];congr 2
 rw[h4,extract_mkB];have e2:wordsOf (s.data.toList.drop f)=mkB ((s.data.toList.drop f).take (k-f))::wordsOf (s.data.toList.drop (k+1)):=by
  unfold wordsOf;conv=>lhs;rw[e,splitL_bl _ _ h3]
  rfl
 rw[e2];simp
theorem SplitAt.other (h:SplitAt s.data.toList f k acc)(hk:k<s.size)(hb:¬s[k]=32):SplitAt s.data.toList f (k+1) acc:=by
 obtain⟨h1,h2,h3,h4⟩:=h;refine⟨by omega,h2,fun b hb'=>?_,h4⟩;have hk':k<s.data.toList.length:=by simpa using hk
 rw[show k+1-f=(k-f)+1 by omega,List.take_add_one,List.mem_append]at hb';rcases hb' with h|h
 ·exact h3 b h
 ·rw[List.getElem?_drop,show f+(k-f)=k by omega,List.getElem?_eq_getElem hk']at h;simp at h;rw[h];exact hb
theorem SplitAt.fin (h:SplitAt s.data.toList f s.size acc):wordsOf s.data.toList=acc++[s.extract f s.size]:=by
 obtain⟨h1,h2,h3,h4⟩:=h;have e:(s.data.toList.drop f).take (s.size-f)=s.data.toList.drop f:=List.take_of_length_le (by simp);rw[e]at h3;rw[h4,extract_mkB,e];congr 1;unfold wordsOf;rw[splitL_nob _ h3];rfl
theorem own_formR (h:w.ownsRow base e size v n xs):∃a n c,v= .slice a n c:=by
 obtain⟨_,⟨rfl,_⟩|⟨g,cap,cur,rfl,_⟩⟩:=h
 ·exact⟨_,_,_,rfl⟩
 ·exact⟨_,_,_,rfl⟩
theorem grown_base {w':World}(ho:w.ownsRow base e size v n xs)(hg:w.grownBy w' v.ownBlock)(hb:base≤w.heap.size):Below base w w':=by
 refine⟨hg.os,hg.tape,hg.output,hg.size,fun k hk=>hg.block k (by omega) (fun e=>?_)⟩;obtain⟨_,⟨rfl,_⟩|⟨g,cap,cur,rfl,h1,_⟩⟩:=ho
 ·cases e
 ·have:k=g:=by simpa [Value.ownBlock]using e
  omega
theorem refsplit_any (s:ByteArray)(w:World)(hs:s.size≤1000000000000):Calls Tryz.prog 183 #[.string s] w fun e w'=>∃g c,e= .returned (.slice (some ⟨g,0,none⟩) (wordsOf s.data.toList).length c)∧w'.ownsRow w.heap.size 9 1 (.slice (some ⟨g,0,none⟩) (wordsOf s.data.toList).length c) (wordsOf s.data.toList).length ((wordsOf s.data.toList).map Value.string)∧Below w.heap.size w w':=by
 obtain⟨i9,hi,hz0,hz1,hz2⟩:=info9;have HI:=hide' (And.intro hi (And.intro hz0 (And.intro hz1 hz2)));clear hi hz0 hz1 hz2;go_enter Tryz.func183,Tryz.ntmps183;go_wp2;go_loopw [3,4,5] (fun l f i wr=>∃(k fr:Nat) (acc:List ByteArray) (va:Option Addr) (vn vc:Nat),l= .slice va vn vc∧f= .int .i64 fr∧i= .int .i64 k∧k≤s.size∧fr≤k∧acc.length≤fr∧Hid (SplitAt s.data.toList fr k acc)∧Hid (wr.ownsRow w.heap.size 9 1 (.slice va vn vc) acc.length (acc.map Value.string)∧Below w.heap.size w wr)) (fun _ _ i _=>s.size-(intOf i).toNat)
 case atStart=>exact⟨0,0,[],none,0,0,rfl,rfl,rfl,Nat.zero_le _,Nat.le_refl _,Nat.le_refl _,SplitAt.start _,World.ownsRow_nil _ _ _ _,Below.refl _ _⟩
 case round=>
  obtain⟨k,fr,acc,va,vn,vc,rfl,rfl,rfl,hk,hfk,hacc,HS,HO⟩:=hrel;have hbase:w.heap.size≤wr.heap.size:=HO.out.2.size;by_cases hlt:k<s.size
  ·by_cases h32:s[k]=32
   ·have HN:=hide' (HS.out.blank hlt h32);have HLn:Hid (acc.length=acc.length):=(show _=_ from rfl)
    have i1:(fr:Int)≤(k:Int):=by omega
    have i2:(k:Int)≤(s.size:Int):=by omega
    go_wp2_with (first
     |(at_builtin;refine wpList_append_own_at _ rfl _ _ _ rfl w.heap.size 9 i9 (.string ⟨#[]⟩) 1 16 Tryz.underlying34 HI.out.1 HI.out.2.1 HI.out.2.2.1 HI.out.2.2.2 rfl (by omega) (.slice va vn vc) acc.length (acc.map Value.string) rfl (World.ownsRow.alloc HO.out.1 _) ⟨wr.heap.size,0,none⟩ 1 1 [.string (s.extract fr k)] rfl rfl (cell_one_new _ _ _) (by simp[Value.oneCell']) (by unfold maxLen;omega) (by omega) (by simp;omega) ?_;intro v' w9 hown hgrow hnil hat;obtain⟨ua,un,uc,huf⟩:=own_formR hown;subst huf;have HG:=hide' (And.intro hown hgrow);clear hown hgrow hnil hat)
     |fail)
    go_roundw;case rel=>
     refine⟨k+1,k+1,acc++[s.extract fr k],_,_,_,rfl,by go_num,by go_num,by omega,Nat.le_refl _,by simp;omega,HN,?_,?_⟩
     ·have:=HG.out.1;rw[List.length_append,List.map_append];exact this
     ·have h1:Below w.heap.size wr (wr.alloc (.cells #[.string (s.extract fr k)] 9)):=(Below.refl _ _).alloc hbase _;exact HO.out.2.trans (h1.trans (grown_base (World.ownsRow.alloc HO.out.1 _) HG.out.2 (by simp;omega)))
    case measure=>simp[intOf];omega
   ·have HN:=hide' (HS.out.other hlt h32);have hb':((s[k].toNat:Int)==32)=false:=u8_ne h32;go_wp2;go_roundw;case rel=>exact⟨k+1,fr,acc,_,_,_,rfl,rfl,by go_num,by omega,by omega,hacc,HN,HO⟩
    case measure=>simp[intOf];omega
  ·have hk2:k=s.size:=by omega
   subst hk2;have HF:=hide' HS.out.fin;have i1:(fr:Int)≤(s.size:Int):=by omega
   have HLn:Hid (acc.length=acc.length):=(show _=_ from rfl)
   go_wp2_with (first
    |(at_builtin;refine wpList_append_own_at _ rfl _ _ _ rfl w.heap.size 9 i9 (.string ⟨#[]⟩) 1 16 Tryz.underlying34 HI.out.1 HI.out.2.1 HI.out.2.2.1 HI.out.2.2.2 rfl (by omega) (.slice va vn vc) acc.length (acc.map Value.string) rfl (World.ownsRow.alloc HO.out.1 _) ⟨wr.heap.size,0,none⟩ 1 1 [.string (s.extract fr s.size)] rfl rfl (cell_one_new _ _ _) (by simp[Value.oneCell']) (by unfold maxLen;omega) (by omega) (by simp;omega) ?_;intro v' w9 hown hgrow hnil hat;obtain⟨ua,un,uc,huf⟩:=own_formR hown;subst huf;have HG:=hide' (And.intro hown hgrow);clear hown hgrow hnil hat)
    |fail)
   go_ret;have hown:=HG.out.1;have e1:acc.length+1=(wordsOf s.data.toList).length:=by rw[HF.out];simp
   have e2:acc.map Value.string++[.string (s.extract fr s.size)]=(wordsOf s.data.toList).map Value.string:=by rw[HF.out];simp
   rw[e1,e2]at hown;have hown2:=hown;obtain⟨_,⟨_,h0⟩|⟨g,cap,cur,e,_⟩⟩:=hown2
   ·omega
   ·cases e;refine⟨g,uc,rfl,hown,?_⟩;have h1:Below w.heap.size wr (wr.alloc (.cells #[.string (s.extract fr s.size)] 9)):=(Below.refl _ _).alloc hbase _;exact HO.out.2.trans (h1.trans (grown_base (World.ownsRow.alloc HO.out.1 _) HG.out.2 (by simp;omega)))
variable {W:World}{lo:Nat}{v:Value}{ss:List ByteArray}{pre bs:List UInt8}{b:UInt8}
def KeysR (W:World)(lo:Nat)(v:Value)(ss:List ByteArray):Prop:=
 (v= .slice none 0 0∧ss=[])∨∃b o c Z,v= .slice (some ⟨b,o,none⟩) ss.length c∧lo≤b∧W.heap[b]?=some (.cells Z 9 (0,0))∧(∀(i:Nat) (s:ByteArray),ss[i]?=some s→Z[o+i]?=some (.string s))∧ss.length≤c
theorem KeysR.other {W':World}{lo':Nat}(h:KeysR W lo v ss)(hl:lo'≤lo)(k:∀b Z,W.heap[b]?=some (.cells Z 9 (0,0))→lo≤b→W'.heap[b]?=W.heap[b]?):KeysR W' lo' v ss:=by
 rcases h with h|⟨b,o,c,Z,h1,h2,h3,h4⟩
 ·exact .inl h
 ·exact .inr ⟨b,o,c,Z,h1,by omega,(k b Z h3 h2).trans h3,h4⟩
theorem KeysR.form (h:KeysR W lo v ss):∃a c,v= .slice a ss.length c:=by
 rcases h with⟨h,rfl⟩|⟨b,o,c,Z,h1,_⟩
 ·exact⟨_,_,h⟩
 ·exact⟨_,c,h1⟩
theorem KeysR.strs (h:KeysR W lo v ss)(hl:ss.length≤140737488355328)(hs:∀s∈ss,s.size≤maxLen):StrsAt W v ss:=by
 rcases h with⟨h,rfl⟩|⟨b,o,c,Z,h1,h2,h3,h4⟩
 ·exact⟨.inr ⟨_,h,rfl⟩,hl,hs⟩
 ·exact⟨.inl ⟨b,o,c,h1,blkLt h3,fun i s hi=>(blkCell h3 _).trans (h4.1 i s hi)⟩,hl,hs⟩
def cmdVR (c:Cmd)(kv:Value):Value:= .agg #[.int .i64 c.kind,kv,.string c.val,.string c.word,.bool c.fatal,.int .i64 c.id]
def zCmdV:Value:= .agg #[.int .i64 0,.slice none 0 0,.string ⟨#[]⟩,.string ⟨#[]⟩,.bool false,.int .i64 0]
def RefOut (w w':World)(r:Option StepR)(e:Ending):Prop:=
 match r with
 |none=>e= .returned (.tuple #[zCmdV,.int .i64 0])
 |some t=>∃kv,e= .returned (.tuple #[cmdVR t.c kv,.int .i64 (if t.skip then 2 else 1)])∧KeysR w' w.heap.size kv t.c.keys
theorem ln_end (hb:bs=pre++[b])(h0:lnR pre=none):(¬0≤Go.Lib.indexByte bs 10→lnR bs=if 60<bs.length then some ⟨wrongC longB false,61,true⟩else none)∧(0≤Go.Lib.indexByte bs 10→(Go.Lib.indexByte bs 10).toNat≤60∧(Go.Lib.indexByte bs 10).toNat<bs.length∧lnR bs=lineR bs (Go.Lib.indexByte bs 10).toNat):=by
 have ht:bs.take 61++bs.drop 61=bs:=List.take_append_drop _ _;refine⟨fun hn=>?_,fun hp=>?_⟩
 ·have:¬0≤Go.Lib.indexByte (bs.take 61) 10:=fun h=>hn (by
   have:=(ib_nonneg_app (bs.take 61) (bs.drop 61) 10 h).1;rw[ht]at this;rw[this];exact h)
  unfold lnR;rw[if_neg this]
 ·obtain⟨_,hlt,_⟩:=ib_nonneg_app bs [] 10 hp;by_cases h:0≤Go.Lib.indexByte (bs.take 61) 10
  ·obtain⟨e1,e2,_⟩:=ib_nonneg_app (bs.take 61) (bs.drop 61) 10 h;rw[ht]at e1;rw[e1];refine⟨by rw[List.length_take]at e2;omega,by rw[←e1];exact hlt,?_⟩;unfold lnR;rw[if_pos h]
  ·exfalso;have e1:=ib_neg_app (bs.take 61) (bs.drop 61) 10 h;rw[ht]at e1;have hl:61<bs.length:=by
    by_cases hd:bs.length≤61
    ·rw[List.take_of_length_le hd]at h;exact absurd hp h
    ·omega
   have e3:pre.take 61=bs.take 61:=by
    rw[hb,List.take_append_of_le_length (by rw[hb]at hl;simp at hl;omega)]
   unfold lnR at h0;rw[e3,if_neg h,if_pos (by rw[hb]at hl;simp at hl;omega)]at h0;cases h0
theorem ln_more {e size:Nat}(hb:bs=pre++[b])(h0:lnR pre=none)(he:(e:Int)=Go.Lib.indexByte bs 10)(hs:setSizeR (wordsOf (bs.take e))=some size)(h40:¬40<size)(hl:e+1+size<bs.length):bs.length=e+1+size+1∧bs.getD (e+1+size) 0=b:=by
 have hpl:bs.length=pre.length+1:=by rw[hb];simp
 have hp:0≤Go.Lib.indexByte bs 10:=by omega
 obtain⟨f1,f2,f3⟩:=(ln_end hb h0).2 hp;have hee:(Go.Lib.indexByte bs 10).toNat=e:=by omega
 rw[hee]at f1 f2 f3;have key:pre.length=e+1+size:=by
  by_cases hgt:pre.length≤e+1+size
  ·omega
  ·exfalso;have hi:Go.Lib.indexByte (pre.take 61) 10=(e:Int):=by
    by_cases h:0≤Go.Lib.indexByte (pre.take 61) 10
    ·have:=(ib_nonneg_app (pre.take 61) (pre.drop 61++[b]) 10 h).1;rw[←List.append_assoc,List.take_append_drop,←hb]at this;omega
    ·have:=ib_neg_app (pre.take 61) (pre.drop 61++[b]) 10 h;rw[←List.append_assoc,List.take_append_drop,←hb]at this;rw[←he]at this;split at this
     ·rename_i hm;rw[List.length_take]at this;by_cases h61:61≤pre.length
      ·omega
      ·have hd:pre.drop 61=[]:=List.drop_eq_nil_of_le (by omega);omega
     ·omega
   unfold lnR at h0;rw[if_pos (by omega),hi]at h0;have hte:((e:Int)).toNat=e:=by omega
   rw[hte]at h0;unfold lineR at h0;have htk:pre.take e=bs.take e:=by rw[hb,List.take_append_of_le_length (by omega)]
   rw[htk,hs]at h0;simp only at h0;unfold setR at h0;rw[if_neg h40,if_neg (by omega)]at h0;split at h0<;>cases h0
 refine⟨by omega,?_⟩;rw[hb,←key];simp[List.getD]
theorem kindB_set (s:ByteArray):kindB s=2↔s=⟨#[115,101,116]⟩:=by
 constructor
 ·intro h;unfold kindB at h;split at h
  ·omega
  ·split at h
   ·rename_i h1 h2;exact h2
   ·split at h<;>omega
 ·rintro rfl;decide
def kindRf (s:ByteArray):Int:=if s=⟨#[103,101,116]⟩then 1 else if s=⟨#[100,101,108]⟩then 3 else 0
theorem kindRf_eq (s:ByteArray)(ks:List ByteArray):(kindB s=2∨cmdB (kindB s) ks noB=false)↔cmdB (kindRf s) ks noB=false:=by
 unfold kindRf kindB;by_cases h1:s=⟨#[103,101,116]⟩
 ·simp[h1]
 ·by_cases h2:s=⟨#[115,101,116]⟩
  ·subst h2;simp[cmdB]
  ·by_cases h3:s=⟨#[100,101,108]⟩
   ·simp[h3]
   ·simp[h1,h2,h3]
theorem kindRf_ok {s:ByteArray}{ks:List ByteArray}(h:¬(kindB s=2∨cmdB (kindB s) ks noB=false)):kindB s=kindRf s:=by
 unfold kindRf kindB at*;by_cases h1:s=⟨#[103,101,116]⟩
 ·simp[h1]
 ·by_cases h2:s=⟨#[115,101,116]⟩
  ·exfalso;apply h;left;simp[h2]
  ·by_cases h3:s=⟨#[100,101,108]⟩
   ·simp[h3]
   ·simp[h1,h2,h3]
end Go.Proofs.YtlonjggfnleolaaGreatDoor
namespace Go.Proofs.YtlonjggfnleolaaGreatDoor
set_option linter.unusedVariables false
variable {s:ByteArray}
theorem emptyB' (h:s.toList.isEmpty=true):s=noB:=by
 have h2:s.toList=[]:=by simpa using h
 have h3:s.data.toList=[]:=by rw[←h2];exact(ByteArray.toList_eq s).symm
 have h4:s.data=#[]:=by simpa using h3
 cases s;simp only at h4;rw[h4];rfl
theorem keyB_size' (h:keyB s=true):1≤s.size∧s.size≤8:=by
 simp only[keyB,withinB,Bool.and_eq_true,decide_eq_true_eq]at h;omega
theorem len_size' (s:ByteArray):s.data.toList.length=s.size:=by simp
end Go.Proofs.YtlonjggfnleolaaGreatDoor
