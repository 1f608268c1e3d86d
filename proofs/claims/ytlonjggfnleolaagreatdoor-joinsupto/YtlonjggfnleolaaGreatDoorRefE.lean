import Derived.Test.YtlonjggfnleolaaGreatDoorRefD
namespace Go.Proofs.YtlonjggfnleolaaGreatDoor
open Go.RowKit
set_option linter.unusedVariables false
set_option maxHeartbeats 4000000
set_option maxRecDepth 20000
variable {bs:List UInt8}{x0 x1 x2 N:Nat}
theorem fr_len {pre:List UInt8}{b:UInt8}(hb:bs=pre++[b])(h0:frR pre=none)(h7:7≤bs.length)(hh:frHead bs=true)(hl:7+byAt bs 2+numAt bs 3≤bs.length):bs.length=7+byAt bs 2+numAt bs 3:=by
 have hpl:bs.length=pre.length+1:=by rw[hb];simp
 by_cases hle:7+byAt bs 2+numAt bs 3≤pre.length
 ·exfalso;have e2:byAt bs 2=byAt pre 2:=by rw[hb,byAt_app (by omega)]
  have e3:numAt bs 3=numAt pre 3:=by rw[hb,numAt_app (by omega)]
  have eh:frHead pre=true:=by rw[←hh,hb,frHead_app (by omega)]
  unfold frR at h0;rw[if_neg (by omega),eh,if_neg (by simp),if_neg (by omega)]at h0;split at h0<;>cases h0
 ·omega
theorem fr_cmd {key val:ByteArray}(hh:frHead bs=true)(hv:val.size=numAt bs 3):cmdB (byAt bs 1:Int) [key] val=keyB key:=by
 unfold frHead at hh;simp only[Bool.and_eq_true,Bool.or_eq_true,decide_eq_true_eq]at hh;obtain⟨⟨⟨⟨⟨h0,h1⟩,h2⟩,h3⟩,h4⟩,h5⟩:=hh;have hk1:keysB [key] 4=keyB key:=by simp[keysB,withinB]
 have hk2:keysB [key] 1=keyB key:=by simp[keysB,withinB]
 have emp:val.size=0→val.toList.isEmpty=true:=fun h=>by
  rw[ByteArray.toList_eq];have:val.data.toList.length=0:=by rw[len_size'];exact h
  simp[List.length_eq_zero_iff.1 this]
 unfold cmdB;by_cases k1:byAt bs 1=1
 ·rw[k1,if_pos (by rfl),hk1,emp (by omega),Bool.and_true]
 ·by_cases k2:byAt bs 1=2
  ·rw[k2,if_neg (by decide),if_pos (by rfl),hk2];have:decide ((val.size:Int)≤40)=true:=by simp;omega
   rw[this,Bool.and_true]
  ·have k3:byAt bs 1=3:=by omega
   rw[k3,if_neg (by decide),if_neg (by decide),if_pos (by rfl),hk2,emp (by omega),Bool.and_true]
theorem frHead_not (h0:byAt bs 0=x0)(h1:byAt bs 1=x1)(h2:byAt bs 2=x2)(h3:numAt bs 3=N)(hh:frHead bs=false):¬x0=1∨(x0=1∧x1<1)∨(x0=1∧¬x1<1∧3<x1)∨(x0=1∧¬x1<1∧¬3<x1∧x2<1)∨(x0=1∧¬x1<1∧¬3<x1∧¬x2<1∧8<x2)∨(x0=1∧¬x1<1∧¬3<x1∧¬x2<1∧¬8<x2∧40<N)∨(x0=1∧¬x1<1∧¬3<x1∧¬x2<1∧¬8<x2∧¬40<N∧¬x1=2∧¬N=0):=by
 unfold frHead at hh;rw[h0,h1,h2,h3]at hh;simp only[Bool.and_eq_false_iff,Bool.or_eq_false_iff,decide_eq_false_iff_not]at hh;omega
theorem frHead_yes (h0:byAt bs 0=x0)(h1:byAt bs 1=x1)(h2:byAt bs 2=x2)(h3:numAt bs 3=N)(hh:frHead bs=true):x0=1∧¬x1<1∧¬3<x1∧¬x2<1∧¬8<x2∧¬40<N∧(¬x1=2→N=0):=by
 unfold frHead at hh;rw[h0,h1,h2,h3]at hh;simp only[Bool.and_eq_true,Bool.or_eq_true,decide_eq_true_eq]at hh;omega
theorem refframe_short (s:ByteArray)(w:World)(h7:s.size<7):Calls Tryz.prog 172 #[.string s] w fun e w'=>RefOut w w' none e∧Below w.heap.size w w':=by
 have h7':(s.size:Int)<7:=by omega
 go_enter Tryz.func172,Tryz.ntmps172;go_wp2;refine bodyPost_ret (v:= .tuple #[zCmdV,.int .i64 0]) (by simp[results,Tryz.results172,go_sem,zCmdV]) rfl ⟨rfl,?_⟩;repeat(first|with_reducible exact Below.refl _ _|with_reducible refine Below.drew ?_|with_reducible refine Below.alloc ?_ (by simp;try omega) _|with_reducible refine Below.setCell ?_ (by simp;try omega) _)
theorem refframe_bad (s:ByteArray)(w:World)(hs:s.size≤1000000000000)(h7:7≤s.size)(hh:frHead s.data.toList=false):Calls Tryz.prog 172 #[.string s] w fun e w'=>RefOut w w' (some ⟨wrongC formB true,7,false⟩) e∧Below w.heap.size w w':=by
 have n0:0<s.size:=by omega
 have n1:1<s.size:=by omega
 have n2:2<s.size:=by omega
 have n3:3<s.size:=by omega
 have n4:4<s.size:=by omega
 have i3:(3:Int)<s.size:=by omega
 have i4:(4:Int)<s.size:=by omega
 have h7':¬(s.size:Int)<7:=by omega
 have hN:numAt s.data.toList 3=s[3].toNat+256*s[4].toNat:=by unfold numAt;rw[byAt_str n3,byAt_str n4]
 have hbad:=frHead_not (byAt_str n0) (byAt_str n1) (byAt_str n2) hN hh;have b0:s[0].toNat<256:=UInt8.toNat_lt _;have b1:s[1].toNat<256:=UInt8.toNat_lt _;have b2:s[2].toNat<256:=UInt8.toNat_lt _;have b3:s[3].toNat<256:=UInt8.toNat_lt _;have b4:s[4].toNat<256:=UInt8.toNat_lt _;have w1:IntKind.i64.wrap (s[1].toNat:Int)=s[1].toNat:=wrap_small _ (by omega) (by omega);have w3:IntKind.i64.wrap (s[3].toNat:Int)=s[3].toNat:=wrap_small _ (by omega) (by omega);have w4:IntKind.i64.wrap (s[4].toNat:Int)=s[4].toNat:=wrap_small _ (by omega) (by omega);have HFin:Hid (∀(W:World),Below (w.heap.size+1) (w.alloc (.cells #[.int .i64 0,.slice none 0 0,.string ⟨#[]⟩,.string ⟨#[]⟩,.bool false,.int .i64 0] 36)) W→CCells W w.heap.size 0 (.slice none 0 0) ⟨#[]⟩∧w.heap.size<W.heap.size∧Below w.heap.size w W):=fun W h=>zres h
 clear hN hh;rcases hbad with h|⟨h1,h2⟩|⟨h1,h2,h3⟩|⟨h1,h2,h3,h4⟩|⟨h1,h2,h3,h4,h5⟩|⟨h1,h2,h3,h4,h5,h6⟩|⟨h1,h2,h3,h4,h5,h6,h8,h9⟩
 case' inl=>
  have q1:((s[0].toNat:Int)==1)=false:=by rw[beq_eq_false_iff_ne];omega
  have q1':((s[0].toNat:Int) != 1)=true:=by simp only[bne,q1,Bool.not_false]
 case' inr.inl=>
  have q1:(s[0].toNat:Int)=1:=by omega
  have q2:(s[1].toNat:Int)<1:=by omega
 case' inr.inr.inl=>
  have q1:(s[0].toNat:Int)=1:=by omega
  have q2:¬(s[1].toNat:Int)<1:=by omega
  have q3:(3:Int)<(s[1].toNat:Int):=by omega
 case' inr.inr.inr.inl=>
  have q1:(s[0].toNat:Int)=1:=by omega
  have q2:¬(s[1].toNat:Int)<1:=by omega
  have q3:¬(3:Int)<(s[1].toNat:Int):=by omega
  have q4:(s[2].toNat:Int)<1:=by omega
 case' inr.inr.inr.inr.inl=>
  have q1:(s[0].toNat:Int)=1:=by omega
  have q2:¬(s[1].toNat:Int)<1:=by omega
  have q3:¬(3:Int)<(s[1].toNat:Int):=by omega
  have q4:¬(s[2].toNat:Int)<1:=by omega
  have q5:(8:Int)<(s[2].toNat:Int):=by omega
 case' inr.inr.inr.inr.inr.inl=>
  have q1:(s[0].toNat:Int)=1:=by omega
  have q2:¬(s[1].toNat:Int)<1:=by omega
  have q3:¬(3:Int)<(s[1].toNat:Int):=by omega
  have q4:¬(s[2].toNat:Int)<1:=by omega
  have q5:¬(8:Int)<(s[2].toNat:Int):=by omega
  have q6:(40:Int)<(s[3].toNat:Int)+(256:Int)*(s[4].toNat:Int):=by omega
 case' inr.inr.inr.inr.inr.inr=>
  have q1:(s[0].toNat:Int)=1:=by omega
  have q2:¬(s[1].toNat:Int)<1:=by omega
  have q3:¬(3:Int)<(s[1].toNat:Int):=by omega
  have q4:¬(s[2].toNat:Int)<1:=by omega
  have q5:¬(8:Int)<(s[2].toNat:Int):=by omega
  have q6:¬(40:Int)<(s[3].toNat:Int)+(256:Int)*(s[4].toNat:Int):=by omega
  have q8:((s[1].toNat:Int)==2)=false:=by rw[beq_eq_false_iff_ne];omega
  have q8':((s[1].toNat:Int) != 2)=true:=by simp only[bne,q8,Bool.not_false]
  have q9:((s[3].toNat:Int)+(256:Int)*(s[4].toNat:Int)==0)=false:=by rw[beq_eq_false_iff_ne];omega
  have q9':((s[3].toNat:Int)+(256:Int)*(s[4].toNat:Int) != 0)=true:=by simp only[bne,q9,Bool.not_false]
 all_goals
  go_enter Tryz.func172,Tryz.ntmps172
  go_wp2_with fail
  go_region
  go_wp2_with fail
  go_at_call 182
  refine(refwrong_any _ _ _).mono ?_
  rintro r w2 ⟨rfl,hb2⟩
  obtain⟨⟨⟨r0,r1,r2,r3,r4,r5⟩,rf⟩,hz,hB⟩:=HFin.out w2 ⟨hb2.os,hb2.tape,hb2.output,hb2.size,fun k hk=>hb2.block k (by show k<(w.alloc _).heap.size;rw[World.size_alloc];exact hk)⟩
  have HB:=hide' hB
  clear hb2 hB
  unfold wrongV
  go_wp2
  refine bodyPost_ret (v:= .tuple #[wrongV formB true,.int .i64 1]) (by simp[results,Tryz.results172,go_sem,wrongV,formB,r0,r1,r2,r3,r4,r5]) rfl ⟨⟨.slice none 0 0,rfl,.inl ⟨rfl,rfl⟩⟩,set6 HB.out (Nat.le_refl _) _ _ _ _ _ _⟩
end Go.Proofs.YtlonjggfnleolaaGreatDoor
