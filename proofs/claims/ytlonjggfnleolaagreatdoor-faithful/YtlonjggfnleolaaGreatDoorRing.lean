import Derived.Test.YtlonjggfnleolaaGreatDoorReadEx
namespace Go.Proofs.YtlonjggfnleolaaGreatDoor
open Go.RowKit
set_option linter.unusedVariables false
set_option maxHeartbeats 1000000
def pt (s p:Nat):ByteArray:=dec100 s++⟨#[58]⟩++dec100 p
theorem pt_size (s p:Nat):(pt s p).size≤5:=by
 have h1:=dec100_size s;have h2:=dec100_size p;have h3:(ByteArray.mk #[58]).size=1:=rfl;unfold pt;rw[ByteArray.size_append,ByteArray.size_append];omega
def awayN (fr:Int)(s p:Nat):Int:=(num (pt s p).data.toList-fr) % 4294967296
theorem away_any (fr:Int)(s p:Nat)(w:World)(hf:0≤fr∧fr<4294967296)(hs:s<100)(hp:p<100):Calls Tryz.prog 83 #[.int .u32 fr,.int .i64 s,.int .i64 p] w fun e w'=>e= .returned (.int .u32 (awayN fr s p))∧w'=w:=by
 have h1:=dec100_size s;have h2:=dec100_size p;have h3:=pt_size s p;have h4:(pt s p).size≤maxLen:=by unfold maxLen;omega
 obtain⟨hf1,hf2⟩:=hf;go_enter Tryz.func83,Tryz.ntmps83;go_wp2_with fail
 go_at_call 122;refine(itoa_any _ _ hs).mono ?_;rintro e w' ⟨rfl,rfl⟩;go_wp2_with fail
 go_at_call 122;refine(itoa_any _ _ hp).mono ?_;rintro e w' ⟨rfl,rfl⟩;go_wp2_with fail
 go_at_call 82;refine(number_any (pt s p) _ h4).mono ?_;rintro e w' ⟨rfl,rfl⟩;have h5:=num_bd (pt s p).data.toList;go_wp2;go_ret;exact⟨rfl,rfl⟩
def stepO (fr:Int)(s p:Nat)(x:Nat×Int):Nat×Int:=if awayN fr s p<x.2 then(s,awayN fr s p)else x
def innerO (fr:Int)(s:Nat)(x:Nat×Int):Nat→Nat×Int
 |0=>x
 |k+1=>stepO fr s k (innerO fr s x k)
def outerO (fr:Int)(p:Nat):Nat→Nat×Int
 |0=>(0,awayN fr 0 0)
 |k+1=>innerO fr k (outerO fr p k) p
theorem stepO_or (fr:Int)(s p:Nat)(x:Nat×Int):(stepO fr s p x).1=x.1∨(stepO fr s p x).1=s:=by
 unfold stepO;split
 ·exact .inr rfl
 ·exact .inl rfl
theorem innerO_or (fr:Int)(s:Nat)(x:Nat×Int)(k:Nat):(innerO fr s x k).1=x.1∨(innerO fr s x k).1=s:=by
 induction k with
 |zero=>exact .inl rfl
 |succ k ih=>
  have:=stepO_or fr s k (innerO fr s x k);simp only[innerO]
  omega
theorem outerO_succ (fr:Int)(p k:Nat):(outerO fr p (k+1)).1=(outerO fr p k).1∨(outerO fr p (k+1)).1=k:=innerO_or fr k _ p
theorem outerO_lt (fr:Int)(p k:Nat):(outerO fr p (k+1)).1≤k:=by
 induction k with
 |zero=>have:=outerO_succ fr p 0;have h:(outerO fr p 0).1=0:=rfl;omega
 |succ k ih=>have:=outerO_succ fr p (k+1);omega
theorem rowner_any (s p:Nat)(key:ByteArray)(w:World)(hs:s≤4)(hp:p≤16)(hk:key.size≤maxLen):Calls Tryz.prog 51 #[.int .i64 s,.int .i64 p,.string key] w fun e w'=>e= .returned (.int .i64 (outerO (num key.data.toList) p s).1)∧w'=w:=by
 have hb:=num_bd key.data.toList;go_enter Tryz.func51,Tryz.ntmps51;go_wp2_with fail
 go_at_call 82;refine(number_any key _ hk).mono ?_;rintro e w' ⟨rfl,rfl⟩;generalize hfr:num key.data.toList=fr at*;have HF:Hid (num key.data.toList=fr):=hfr;clear hfr;go_wp2_with fail
 go_at_call 83;refine(away_any fr 0 0 _ hb (by omega) (by omega)).mono ?_;rintro e w' ⟨rfl,rfl⟩;go_wp2;go_loop [8,9,18] (fun o l i=>∃k:Nat,k≤s∧i= .int .i64 k∧o= .int .i64 (outerO fr p k).1∧l= .int .u32 (outerO fr p k).2) (fun _ _ i=>s-(intOf i).toNat)
 case atStart=>exact⟨0,Nat.zero_le _,rfl,rfl,rfl⟩
 case round=>
  obtain⟨k,hk1,rfl,rfl,rfl⟩:=hrel;by_cases hlt:k<s
  ·generalize hx:outerO fr p k=x;have HX:Hid (outerO fr p k=x):=hx;clear hx;go_wp2;go_loop [8,9,22] (fun o l i=>∃j:Nat,j≤p∧i= .int .i64 j∧o= .int .i64 (innerO fr k x j).1∧l= .int .u32 (innerO fr k x j).2) (fun _ _ i=>p-(intOf i).toNat)
   case atStart=>exact⟨0,Nat.zero_le _,rfl,rfl,rfl⟩
   case round=>
    obtain⟨j,hj1,rfl,rfl,rfl⟩:=hrel;by_cases hjt:j<p
    ·generalize hy:innerO fr k x j=y;have HY:Hid (innerO fr k x j=y):=hy;clear hy;by_cases hd:awayN fr k j<y.2
     ·go_wp2_with (go_at_call 83;refine(away_any fr k j _ hb (by omega) (by omega)).mono ?_;rintro e w' ⟨rfl,rfl⟩)
      go_round
      case rel=>exact⟨j+1,by omega,by go_num,by simp[innerO,HY.out,stepO,hd],by simp[innerO,HY.out,stepO,hd]⟩
      case measure=>simp[intOf];omega
     ·go_wp2_with (go_at_call 83;refine(away_any fr k j _ hb (by omega) (by omega)).mono ?_;rintro e w' ⟨rfl,rfl⟩)
      go_round
      case rel=>exact⟨j+1,by omega,by go_num,by simp[innerO,HY.out,stepO,Int.not_lt.2 hd],by simp[innerO,HY.out,stepO,Int.not_lt.2 hd]⟩
      case measure=>simp[intOf];omega
    ·have hj2:j=p:=by omega
     subst hj2;go_wp2;go_round
     case rel=>exact⟨k+1,by omega,by go_num,by simp[outerO,HX.out],by simp[outerO,HX.out]⟩
     case measure=>simp[intOf];omega
  ·have hk2:k=s:=by omega
   subst hk2;go_wp2;go_ret;exact⟨ret_int (by rw[HF.out]),rfl⟩
def ownerN (s p:Nat)(key:ByteArray):Nat:=(outerO (num key.data.toList) p s).1
theorem ownerN_lt (s p:Nat)(key:ByteArray)(h:1≤s):ownerN s p key<s:=by
 obtain⟨k,rfl⟩:∃k,s=k+1:=⟨s-1,by omega⟩
 have:=outerO_lt (num key.data.toList) p k;unfold ownerN;omega
theorem ringB_t {s p:Nat}(h1:1≤s)(h2:s≤4)(h3:1≤p)(h4:p≤16):ringB s p=true:=by
 simp only[ringB,withinB_t (show(1:Int)≤s by omega) (show(s:Int)≤4 by omega),withinB_t (show(1:Int)≤p by omega) (show(p:Int)≤16 by omega),Bool.and_self]
theorem owner_ok (s p:Nat)(key:ByteArray)(w:World)(h1:1≤s)(h2:s≤4)(h3:1≤p)(h4:p≤16)(hk:keyB key=true)(hl:key.size≤maxLen):Calls Tryz.prog 23 #[.int .i64 s,.int .i64 p,.string key] w fun e w'=>e= .returned (.tuple #[.int .i64 (ownerN s p key),.int .i64 0])∧w'=w:=by
 have hr:=ringB_t h1 h2 h3 h4;go_enter Tryz.func23,Tryz.ntmps23;go_wp2_with (first|(go_at_call 49;refine(ring_any _ _ _).mono ?_;rintro e w' ⟨rfl,rfl⟩)|(go_at_call 50;refine(key_any _ _ hl).mono ?_;rintro e w' ⟨rfl,rfl⟩)|(go_at_call 51;refine(rowner_any s p key _ h2 h4 hl).mono ?_;rintro e w' ⟨rfl,rfl⟩))
 go_ret2;exact⟨rfl,rfl⟩
end Go.Proofs.YtlonjggfnleolaaGreatDoor
