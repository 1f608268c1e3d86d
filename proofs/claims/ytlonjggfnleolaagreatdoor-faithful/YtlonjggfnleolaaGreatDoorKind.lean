import Derived.Test.YtlonjggfnleolaaGreatDoorSpec
namespace Go.Proofs.YtlonjggfnleolaaGreatDoor
open Go.RowKit
set_option linter.unusedVariables false
set_option maxHeartbeats 1000000
set_option maxRecDepth 20000
theorem eqB {s:ByteArray}(l:List UInt8)(h:¬s=⟨l.toArray⟩):(s.toList==l)=false:=by
 rw[beq_eq_false_iff_ne];intro e;apply h;rw[Lib.toList_data]at e;rw[←e]
theorem kindOf_any (s:ByteArray)(w:World):Calls Tryz.prog 224 #[.string s] w fun e w'=>e= .returned (.int .i64 (kindB s))∧w'=w:=by
 by_cases h1:s=⟨#[103,101,116]⟩
 ·subst h1;go_enter Tryz.func224,Tryz.ntmps224;go_wp2;go_ret;exact⟨rfl,rfl⟩
 by_cases h2:s=⟨#[115,101,116]⟩
 ·subst h2;go_enter Tryz.func224,Tryz.ntmps224;go_wp2;go_ret;exact⟨rfl,rfl⟩
 by_cases h3:s=⟨#[100,101,108]⟩
 ·subst h3;go_enter Tryz.func224,Tryz.ntmps224;go_wp2;go_ret;exact⟨rfl,rfl⟩
 have e1:(s.toList== [103,101,116])=false:=eqB _ h1;have e2:(s.toList== [115,101,116])=false:=eqB _ h2;have e3:(s.toList== [100,101,108])=false:=eqB _ h3;have hk:kindB s=0:=by simp[kindB,h1,h2,h3]
 rw[hk];go_enter Tryz.func224,Tryz.ntmps224;go_wp2;go_ret;exact⟨rfl,rfl⟩
def cntV (r:Option Nat):Value:= .tuple #[.int .i64 (r.getD 0),.bool r.isSome]
theorem digsTo_snoc (l:List UInt8)(b:UInt8):digsTo (l++[b])=digsTo l*10+(b.toNat-48):=by simp[digsTo]
theorem digsTo_lt:∀(l:List UInt8),l.all digB=true→digsTo l<10 ^ l.length:=by
 suffices h:∀(k:Nat) (l:List UInt8),l.length=k→l.all digB=true→digsTo l<10 ^ k by intro l hl;exact h _ l rfl hl
 intro k;induction k with
 |zero=>intro l h _;have:l=[]:=List.length_eq_zero_iff.1 h;subst this;simp[digsTo]
 |succ k ih=>
  intro l0 hl0 h;obtain⟨l,b,rfl⟩:∃l b,l0=l++[b]:=⟨l0.dropLast,l0.getLast (by intro e;subst e;simp at hl0),(List.dropLast_concat_getLast _).symm⟩
  have hl:l.length=k:=by simpa using hl0
  rw[List.all_append,Bool.and_eq_true]at h;have h1:=ih l hl h.1;have h2:digB b=true:=by simpa using h.2
  simp only[digB,Bool.and_eq_true,decide_eq_true_eq]at h2;rw[digsTo_snoc,Nat.pow_succ];omega
theorem count_any (s:ByteArray)(w:World)(hs:s.size≤maxLen):Calls Tryz.prog 227 #[.string s] w fun e w'=>e= .returned (cntV (countS s))∧w'=w:=by
 unfold maxLen at hs;have HS:Hid (countS s=if s.size<1∨3<s.size∨(1<s.size∧s.data.toList.getD 0 0=48)then none else if s.data.toList.all digB then some (digsTo s.data.toList)else none):=rfl;generalize countS s=R at*;by_cases h1:s.size<1
 ·have hR:R=none:=by rw[HS.out];simp[h1]
  subst hR;have h1':(s.size:Int)<1:=by omega
  go_enter Tryz.func227,Tryz.ntmps227;go_wp2;go_ret2;exact⟨rfl,rfl⟩
 by_cases h3:3<s.size
 ·have hR:R=none:=by rw[HS.out];simp[h3]
  subst hR;have h1':¬(s.size:Int)<1:=by omega
  have h3':(3:Int)<s.size:=by omega
  go_enter Tryz.func227,Tryz.ntmps227;go_wp2;go_ret2;exact⟨rfl,rfl⟩
 have hz:0<s.size:=by omega
 have h0:s.data.toList.getD 0 0=s[0]:=by
  rw[List.getD,List.getElem?_eq_getElem (by simpa using hz)];rfl
 by_cases h4:1<s.size∧s[0]=48
 ·have hR:R=none:=by rw[HS.out,if_pos];exact .inr (.inr ⟨h4.1,h0.trans h4.2⟩)
  subst hR;obtain⟨h4a,h4b⟩:=h4;have h1':¬(s.size:Int)<1:=by omega
  have h3':¬(3:Int)<s.size:=by omega
  have h4':(1:Int)<s.size:=by omega
  go_enter Tryz.func227,Tryz.ntmps227;go_wp2;go_ret2;exact⟨rfl,rfl⟩
 have HR:Hid (R=if s.data.toList.all digB then some (digsTo s.data.toList)else none):=by
  show _=_;rw[HS.out,if_neg];rw[h0];rintro (h|h|h)
  ·exact h1 h
  ·exact h3 h
  ·exact h4 h
 clear HS;have h1':¬(s.size:Int)<1:=by omega
 have h3':¬(3:Int)<s.size:=by omega
 have HL:Hid (∀l:List UInt8,l.all digB=true→digsTo l<10 ^ l.length):=digsTo_lt;have key:∀a:Act,∀(hn:a.tmps=a.tmps),True:=fun _ _=>trivial
 clear key;by_cases h5:s.size=1;case' pos=>
  have h5':¬(1:Int)<s.size:=by omega
 case' neg=>
  have h5':(1:Int)<s.size:=by omega
  have h6:¬s[0]=48:=fun h=>h4 ⟨by omega,h⟩
  have h7:((s[0].toNat:Int)==48)=false:=by
   rw[beq_eq_false_iff_ne];intro h;apply h6;apply UInt8.toNat_inj.1;show s[0].toNat=48;omega
 all_goals
  go_enter Tryz.func227,Tryz.ntmps227
  go_wp2
  go_loop [4,26] (fun m i=>∃k:Nat,k≤s.size∧i= .int .i64 k∧m= .int .i64 (digsTo (s.data.toList.take k))∧(s.data.toList.take k).all digB=true) (fun _ i=>s.size-(intOf i).toNat)
  case atStart=>exact⟨0,Nat.zero_le _,rfl,rfl,by simp⟩
  case round=>
   obtain⟨k,hk,rfl,rfl,hall⟩:=hrel;have hb:=HL.out _ hall;have hb2:digsTo (s.data.toList.take k)<1000:=Nat.lt_of_lt_of_le hb (by
    have:(s.data.toList.take k).length≤3:=by simp;omega
    exact Nat.pow_le_pow_right (n:=10) (by decide) this)
   have HA:Hid ((s.data.toList.take k).all digB=true):=hall;clear hall hb;by_cases hlt:k<s.size
   ·cases hb:digB s[k]with
    |true=>
     have hd:=hb;simp only[digB,Bool.and_eq_true,decide_eq_true_eq]at hd;obtain⟨hd1,hd2⟩:=hd;have HT:Hid (digsTo (s.data.toList.take (k+1))=digsTo (s.data.toList.take k)*10+(s[k].toNat-48)):=by show _=_;rw[take_snoc s k hlt,digsTo_snoc]
     generalize digsTo (s.data.toList.take k)=D at*;go_wp2;go_round
     case rel=>exact⟨k+1,by omega,by go_num,by rw[HT.out];go_num,by rw[take_snoc s k hlt];simp[HA.out,hb]⟩
     case measure=>simp[intOf];omega
    |false=>
     have hR:R=none:=by rw[HR.out,all_at hlt hb];rfl
     subst hR;have hd:¬(48≤(s[k].toNat:Int)∧(s[k].toNat:Int)≤57):=by
      intro h;simp[digB,h.1,h.2]at hb
     by_cases hd1:(s[k].toNat:Int)<48
     ·go_wp2;go_ret2;exact⟨rfl,rfl⟩
     ·have hd2:(57:Int)<s[k].toNat:=by omega
      go_wp2;go_ret2;exact⟨rfl,rfl⟩
   ·have hk2:k=s.size:=by omega
    subst hk2;have e1:s.data.toList.take s.size=s.data.toList:=List.take_of_length_le (by simp);have HR2:Hid (R=some (digsTo (s.data.toList.take s.size))):=by show _=_;have hA:=HA.out;rw[e1]at hA⊢;rw[HR.out,if_pos hA]
    clear HR;generalize digsTo (s.data.toList.take s.size)=D at*;go_wp2;go_ret2;exact⟨by rw[HR2.out];rfl,rfl⟩
theorem setSize_any (ws:List ByteArray)(b o c:Nat)(w:World)(hc:∀(i:Nat) (s:ByteArray),ws[i]?=some s→w.cell? ⟨b,o+i,none⟩=some (.string s))(hb:b<w.heap.size)(hcap:ws.length≤c)(hm:ws.length≤maxLen)(hz:∀s∈ws,s.size≤maxLen):Calls Tryz.prog 222 #[.slice (some ⟨b,o,none⟩) ws.length c] w fun e w'=>e= .returned (cntV (setSizeR ws))∧w'=w:=by
 unfold maxLen at hm;by_cases h3:ws.length=3
 ·match ws,h3 with
  | [x,y,z],_=>
   have hx:=hc 0 x rfl;have hy:=hc 1 y rfl;have hzc:=hc 2 z rfl;have sy:=hz y (by simp);have sz:=hz z (by simp);clear hc hz;simp only[Nat.add_zero]at hx;have hR:setSizeR [x,y,z]=if kindB x=2∧keyB y=true then countS z else none:=by simp[setSizeR]
   rw[hR];clear hR;by_cases hk:kindB x=2
   ·cases hy2:keyB y with
    |true=>
     rw[if_pos ⟨hk,rfl⟩];go_enter Tryz.func222,Tryz.ntmps222;go_wp2_with (first|(go_at_call 224;refine(kindOf_any _ _).mono ?_;rintro e w' ⟨rfl,rfl⟩)|(go_at_call 50;refine(key_any _ _ sy).mono ?_;rintro e w' ⟨rfl,rfl⟩)|(go_at_call 227;refine(count_any _ _ sz).mono ?_;rintro e w' ⟨rfl,rfl⟩;unfold cntV))
     go_ret2;exact⟨rfl,rfl⟩
    |false=>
     rw[if_neg (by simp)];go_enter Tryz.func222,Tryz.ntmps222;go_wp2_with (first|(go_at_call 224;refine(kindOf_any _ _).mono ?_;rintro e w' ⟨rfl,rfl⟩)|(go_at_call 50;refine(key_any _ _ sy).mono ?_;rintro e w' ⟨rfl,rfl⟩))
     go_ret2;exact⟨rfl,rfl⟩
   ·rw[if_neg (fun h=>hk h.1)];have hk':(kindB x==2)=false:=by simpa using hk
    go_enter Tryz.func222,Tryz.ntmps222;go_wp2_with (go_at_call 224;refine(kindOf_any _ _).mono ?_;rintro e w' ⟨rfl,rfl⟩)
    go_ret2;exact⟨rfl,rfl⟩
 ·have hR:setSizeR ws=none:=by simp[setSizeR,h3]
  rw[hR];have h3':((ws.length:Int)==3)=false:=by rw[beq_eq_false_iff_ne];omega
  generalize ws.length=n at*;go_enter Tryz.func222,Tryz.ntmps222;go_wp2;go_ret2;exact⟨rfl,rfl⟩
end Go.Proofs.YtlonjggfnleolaaGreatDoor
