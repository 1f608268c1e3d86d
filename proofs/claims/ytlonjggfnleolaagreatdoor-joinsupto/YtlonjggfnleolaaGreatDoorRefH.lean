import Derived.Test.YtlonjggfnleolaaGreatDoorRefE
namespace Go.Proofs.YtlonjggfnleolaaGreatDoor
open Go.RowKit
set_option linter.unusedVariables false
set_option maxHeartbeats 4000000
set_option maxRecDepth 20000
theorem cmdAt_ab {w W':World}{C T:Nat}{k i:Int}{v key:ByteArray}(hat:W'.heap[C]?=some (.cells #[.int .i64 k,.slice (some ⟨T,0,none⟩) 1 1,.string v,.string ⟨#[]⟩,.bool false,.int .i64 i] 36 (0,0)))(hT:W'.heap[T]?=some (.cells #[.string key] 9 (0,0)))(hR:W'.heap[w.heap.size]?=some zCmdO)(h1:w.heap.size<C)(h2:w.heap.size≤T)(hB:Below w.heap.size w W'):
 CmdAt w W' C ⟨k,[key],v,noB,false,i⟩ (.slice (some ⟨T,0,none⟩) 1 1):=
 ⟨hat,hR,h1,.inr ⟨T,0,1,#[.string key],rfl,h2,hT,fun j s hs=>(by
  match j,hs with
  |0,hs=>simp at hs;subst hs;rfl),Nat.le_refl _⟩,hB⟩
theorem refframe_good (s:ByteArray)(w:World)(hs:s.size≤1000000000000)(h7:7≤s.size)(hh:frHead s.data.toList=true)(hl:7+byAt s.data.toList 2+numAt s.data.toList 3≤s.size→s.size=7+byAt s.data.toList 2+numAt s.data.toList 3):Calls Tryz.prog 172 #[.string s] w fun e w'=>RefOut w w' (frR s.data.toList) e∧Below w.heap.size w w':=by
 have n0:0<s.size:=by omega
 have n1:1<s.size:=by omega
 have n2:2<s.size:=by omega
 have n3:3<s.size:=by omega
 have n4:4<s.size:=by omega
 have n5:5<s.size:=by omega
 have n6:6<s.size:=by omega
 have i3:(3:Int)<s.size:=by omega
 have i4:(4:Int)<s.size:=by omega
 have i5:(5:Int)<s.size:=by omega
 have i6:(6:Int)<s.size:=by omega
 have h7':¬(s.size:Int)<7:=by omega
 have hN:numAt s.data.toList 3=s[3].toNat+256*s[4].toNat:=by unfold numAt;rw[byAt_str n3,byAt_str n4]
 have hI:numAt s.data.toList 5=s[5].toNat+256*s[6].toNat:=by unfold numAt;rw[byAt_str n5,byAt_str n6]
 have hB2:=byAt_str n2;have hB1:=byAt_str n1;obtain⟨p0,p1,p2,p3,p4,p5,p6⟩:=frHead_yes (byAt_str n0) (byAt_str n1) (byAt_str n2) hN hh;have b0:s[0].toNat<256:=UInt8.toNat_lt _;have b1:s[1].toNat<256:=UInt8.toNat_lt _;have b2:s[2].toNat<256:=UInt8.toNat_lt _;have b3:s[3].toNat<256:=UInt8.toNat_lt _;have b4:s[4].toNat<256:=UInt8.toNat_lt _;have b5:s[5].toNat<256:=UInt8.toNat_lt _;have b6:s[6].toNat<256:=UInt8.toNat_lt _;have w1:IntKind.i64.wrap (s[1].toNat:Int)=s[1].toNat:=wrap_small _ (by omega) (by omega);have w2:IntKind.i64.wrap (s[2].toNat:Int)=s[2].toNat:=wrap_small _ (by omega) (by omega);have w3:IntKind.i64.wrap (s[3].toNat:Int)=s[3].toNat:=wrap_small _ (by omega) (by omega);have w4:IntKind.i64.wrap (s[4].toNat:Int)=s[4].toNat:=wrap_small _ (by omega) (by omega)
 have w5:IntKind.i64.wrap (s[5].toNat:Int)=s[5].toNat:=wrap_small _ (by omega) (by omega);have w6:IntKind.i64.wrap (s[6].toNat:Int)=s[6].toNat:=wrap_small _ (by omega) (by omega);have q1:(s[0].toNat:Int)=1:=by omega
 have q2:¬(s[1].toNat:Int)<1:=by omega
 have q3:¬(3:Int)<(s[1].toNat:Int):=by omega
 have q4:¬(s[2].toNat:Int)<1:=by omega
 have q5:¬(8:Int)<(s[2].toNat:Int):=by omega
 have q6:¬(40:Int)<(s[3].toNat:Int)+(256:Int)*(s[4].toNat:Int):=by omega
 obtain⟨N,hNN⟩:∃N:Nat,N=s[3].toNat+256*s[4].toNat:=⟨_,rfl⟩
 have zN:(s[3].toNat:Int)+(256:Int)*(s[4].toNat:Int)=(N:Int):=by omega
 rw[zN]at q6;rw[hN,←hNN,hB2]at hl;have HKey:Hid (∀ke,ke=7+s[2].toNat→ke+N=s.size→frR s.data.toList=if keyB (s.extract 7 ke)=false then some ⟨wrongC formB true,s.size,false⟩else some ⟨⟨s[1].toNat,[s.extract 7 ke],s.extract ke s.size,noB,false,(s[5].toNat+256*s[6].toNat:Nat)⟩,s.size,false⟩):=by
  intro ke hke hsz;unfold frR;rw[len_size',hB2,hN,←hNN,hB1,hI,if_neg (by omega),hh,if_neg (by simp),if_neg (by omega)];have e1:bytesOf s.data.toList 7 s[2].toNat=s.extract 7 ke:=by rw[extract_mkB,hke,Nat.add_sub_cancel_left];rfl
  have e2:bytesOf s.data.toList (7+s[2].toNat) N=s.extract ke s.size:=by rw[extract_mkB,←hke,show s.size-ke=N by omega];rfl
  rw[e1,e2,show 7+s[2].toNat+N=s.size by omega]
 have HCmd:Hid (∀ke,ke=7+s[2].toNat→ke+N=s.size→cmdB (s[1].toNat:Int) [s.extract 7 ke] (s.extract ke s.size)=keyB (s.extract 7 ke)):=by
  intro ke hke hsz;rw[←hB1];exact fr_cmd hh (by rw[hN,←hNN,ByteArray.size_extract];omega)
 have hwait:s.size<7+s[2].toNat+N→frR s.data.toList=none:=by
  intro h;unfold frR;rw[len_size',hB2,hN,←hNN,if_neg (by omega),hh,if_neg (by simp),if_pos h]
 have q8:s[1].toNat=2∨(¬s[1].toNat=2∧N=0):=by
  by_cases h:s[1].toNat=2
  ·exact .inl h
  ·exact .inr ⟨h,by have:=p6 h;omega⟩
 clear hN hI hh hB1 hB2 p0 p1 p2 p3 p4 p5 p6;obtain⟨x2,hx2⟩:∃x2:Nat,x2=s[2].toNat:=⟨_,rfl⟩
 have z2:(s[2].toNat:Int)=(x2:Int):=by omega
 obtain⟨ke,hke⟩:∃ke:Nat,ke=7+s[2].toNat:=⟨_,rfl⟩
 have zk:(7:Int)+(s[2].toNat:Int)=(ke:Int):=by omega
 have HNk:=hide' (And.intro hNN hke);have k1:7≤ke:=by omega
 have k2:ke≤15:=by omega
 clear z2 hx2;generalize hRR:frR s.data.toList=RES at*;clear hRR;have q8b:(((s[1].toNat:Int)==2)=true∧((s[1].toNat:Int) != 2)=false)∨(((s[1].toNat:Int)==2)=false∧((s[1].toNat:Int) != 2)=true∧((N:Int)==0)=true∧((N:Int) != 0)=false):=by
  rcases q8 with h|⟨h1,h2⟩
  ·left;have e:((s[1].toNat:Int)==2)=true:=by rw[beq_iff_eq];omega
   exact⟨e,by simp only[bne,e,Bool.not_true]⟩
  ·right;have e:((s[1].toNat:Int)==2)=false:=by rw[beq_eq_false_iff_ne];omega
   have f:((N:Int)==0)=true:=by rw[beq_iff_eq];omega
   exact⟨e,by simp only[bne,e,Bool.not_false],f,by simp only[bne,f,Bool.not_true]⟩
 clear q8;have HL:=hide' hl;by_cases hend:s.size<7+s[2].toNat+N
 ·have hr:=hwait hend;subst hr;have hend':(s.size:Int)<(ke:Int)+(N:Int):=by omega
  clear HKey HCmd hwait hl hke hNN hend HL;rcases q8b with⟨q8,q8'⟩|⟨q8,q8',q9,q9'⟩
  all_goals
   go_enter Tryz.func172,Tryz.ntmps172
   go_wp2_with fail
   go_region
   go_wp2_with fail
   all_goals refine bodyPost_ret (v:= .tuple #[zCmdV,.int .i64 0]) (by simp[results,Tryz.results172,go_sem,zCmdV]) rfl ⟨rfl,?_⟩
   all_goals repeat(first|with_reducible exact Below.refl _ _|with_reducible refine Below.drew ?_|with_reducible refine Below.alloc ?_ (by simp;try omega) _|with_reducible refine Below.setCell ?_ (by simp;try omega) _)
 ·have hsz:=HL.out (by omega);have hsz2:ke+N=s.size:=by omega
  have hr:=HKey.out ke hke hsz2;have hcb:=HCmd.out ke hke hsz2;have hend':¬(s.size:Int)<(ke:Int)+(N:Int):=by omega
  have HR:=hide' hr;have HB:=hide' hcb;have hks:(s.extract 7 ke).size≤maxLen:=by rw[ByteArray.size_extract];unfold maxLen;omega
  have hvs:(s.extract ke s.size).size≤maxLen:=by rw[ByteArray.size_extract];unfold maxLen;omega
  have j1:(7:Int)≤(ke:Int):=by omega
  have j2:(ke:Int)≤(s.size:Int):=by omega
  have j3:ke≤s.size:=by omega
  have wk:IntKind.i64.wrap (ke:Int)=ke:=wrap_small _ (by omega) (by omega);have wI:IntKind.i64.wrap ((s[5].toNat:Int)+(256:Int)*(s[6].toNat:Int))=(s[5].toNat:Int)+(256:Int)*(s[6].toNat:Int):=wrap_small _ (by omega) (by omega);have wJ:IntKind.i64.wrap ((256:Int)*(s[6].toNat:Int))=(256:Int)*(s[6].toNat:Int):=wrap_small _ (by omega) (by omega);have hid:((s[5].toNat+256*s[6].toNat:Nat):Int)=(s[5].toNat:Int)+(256:Int)*(s[6].toNat:Int):=by omega
  have HID:=hide' hid;clear HKey HCmd hwait hl hke hNN hend HL hr hcb hsz hid hsz2;have HFin:Hid (∀(W:World),Below (w.heap.size+1) (w.alloc (.cells #[.int .i64 0,.slice none 0 0,.string ⟨#[]⟩,.string ⟨#[]⟩,.bool false,.int .i64 0] 36)) W→W.heap[w.heap.size]?=some zCmdO∧Below w.heap.size w W):=fun W h=>⟨(h.block _ (by omega)).trans (blkNew w _),((Below.refl _ _).alloc (Nat.le_refl _) _).trans (h.mono (by omega))⟩
  go_enter Tryz.func172,Tryz.ntmps172;go_wp2_with fail
  go_region
  go_upto_region 5 with fail
  go_cut [56] (fun s56 W=>s56= .bool false∧Below (w.heap.size+1) (w.alloc (.cells #[.int .i64 0,.slice none 0 0,.string ⟨#[]⟩,.string ⟨#[]⟩,.bool false,.int .i64 0] 36)) W)
  case first=>
   rcases q8b with⟨q8,q8'⟩|⟨q8,q8',q9,q9'⟩
   all_goals
    go_wp2_with fail
    go_meet
    case rel=>
     refine⟨congrArg Value.bool (by simp only[Bool.or_eq_false_iff,decide_eq_false_iff_not];omega),?_⟩;first|exact Below.refl _ _|exact(Below.refl _ _).drew|exact⟨rfl,rfl,rfl,Nat.le_refl _,fun _ _=>rfl⟩
  case rest=>
   clear q8b;obtain⟨rfl,hB⟩:=hcut;obtain⟨hR,hB1⟩:=HFin.out wc hB;have HW:=hide' (And.intro hR hB1);have hrl:=blkLt hR;obtain⟨⟨r0,r1,r2,r3,r4,r5⟩,rf⟩:=ccells_of hR;clear hB hR hB1 HFin;go_upto_region 10 with fail
   go_cut [7] (fun s7 W=>∃C T,s7= .pointer (some ⟨C,0,none⟩)∧CmdAt w W C ⟨s[1].toNat,[s.extract 7 ke],s.extract ke s.size,noB,false,(s[5].toNat:Int)+(256:Int)*(s[6].toNat:Int)⟩ (.slice (some ⟨T,0,none⟩) 1 1))
   case first=>
    go_big_region
    all_goals go_wp2_with fail
    all_goals go_meet
    all_goals
     case rel=>
      have hrl2:w.heap.size≤wc.heap.size:=by omega
      have hbl:∀x y,Below w.heap.size w ((wc.alloc x).alloc y).drew:=fun x y=>((HW.out.2.alloc hrl2 _).alloc (by rw[World.size_alloc];omega) _).drew
      first
       |exact⟨wc.heap.size+1,wc.heap.size,rfl,cmdAt_ab (hs_drew (hs_new (by rw[World.size_alloc]))) (hs_drew (hs_alloc (hs_new rfl) _)) (hs_drew (hs_alloc (hs_alloc HW.out.1 _) _)) (by omega) (by omega) (hbl _ _)⟩
       |exact⟨wc.heap.size,wc.heap.size+1,rfl,cmdAt_ab (hs_drew (hs_alloc (hs_new rfl) _)) (hs_drew (hs_new (by rw[World.size_alloc]))) (hs_drew (hs_alloc (hs_alloc HW.out.1 _) _)) (by omega) (by omega) (hbl _ _)⟩
   case rest=>
    clear r0 r1 r2 r3 r4 r5 rf hrl HW;obtain⟨C,T,rfl,hC⟩:=hcut;obtain⟨⟨⟨k0,k1,k2,k3,k4,k5⟩,kf⟩,hCl,⟨⟨r0,r1,r2,r3,r4,r5⟩,rf⟩,hrl⟩:=hC.cells;simp only at k0 k1 k2 k3 k4 k5;have hS:=hC.keys.strs (by simp) (fun x hx=>by simp at hx;rw[hx];exact hks);have HCM:=hide' (refcmd_any (s[1].toNat:Int) _ [s.extract 7 ke] (s.extract ke s.size) noB false ((s[5].toNat:Int)+(256:Int)*(s[6].toNat:Int)) wc hS hvs);unfold cmdV6 at HCM;rw[HB.out]at HCM;have HC:=hide' hC;rw[HID.out]at HR;clear hC hS HB HID;generalize (s[5].toNat:Int)+(256:Int)*(s[6].toNat:Int)=idn at*;generalize s.extract ke s.size=val at*;generalize s.extract 7 ke=key at*;cases hcm:keyB key with
    |false=>
     rw[hcm]at HCM;have hr:RES=some ⟨wrongC formB true,s.size,false⟩:=by rw[HR.out,if_pos hcm]
     subst hr;clear HR hcm;go_wp2_with (first|(go_at_call 139;refine HCM.out.mono ?_;rintro r w3 ⟨rfl,hb3⟩;have HC3:=hide' (HC.out.later hb3);clear hb3)|fail)
     go_at_call 182;refine(refwrong_any _ _ _).mono ?_;rintro r w4 ⟨rfl,hb4⟩;have HC4:=hide' (HC3.out.later hb4);clear hb4 HC3 r0 r1 r2 r3 r4 r5 rf hrl k0 k1 k2 k3 k4 k5 kf hCl;obtain⟨_,_,⟨⟨r0,r1,r2,r3,r4,r5⟩,rf⟩,hrl⟩:=HC4.out.cells;unfold wrongV;go_wp2;refine bodyPost_ret (v:= .tuple #[wrongV formB true,.int .i64 1]) (by simp[results,Tryz.results172,go_sem,wrongV,formB,r0,r1,r2,r3,r4,r5]) rfl ⟨⟨.slice none 0 0,rfl,.inl ⟨rfl,rfl⟩⟩,(HC4.out.fin _ _ _ _ _ _).1⟩
    |true=>
     rw[hcm]at HCM;have hr:RES=some ⟨⟨s[1].toNat,[key],val,noB,false,idn⟩,s.size,false⟩:=by rw[HR.out,if_neg (by rw[hcm];simp)]
     subst hr;clear HR hcm;go_wp2_with (first|(go_at_call 139;refine HCM.out.mono ?_;rintro r w3 ⟨rfl,hb3⟩;have HC3:=hide' (HC.out.later hb3);clear hb3 r0 r1 r2 r3 r4 r5 rf hrl k0 k1 k2 k3 k4 k5 kf hCl;obtain⟨⟨⟨k0,k1,k2,k3,k4,k5⟩,kf⟩,hCl,⟨⟨r0,r1,r2,r3,r4,r5⟩,rf⟩,hrl⟩:=HC3.out.cells;simp only at k0 k1 k2 k3 k4 k5)|fail)
     refine bodyPost_ret (v:= .tuple #[cmdVR ⟨s[1].toNat,[key],val,noB,false,idn⟩ (.slice (some ⟨T,0,none⟩) 1 1),.int .i64 1]) (by simp[results,Tryz.results172,go_sem,cmdVR,r0,r1,r2,r3,r4,r5]) rfl ⟨⟨_,rfl,(HC3.out.fin _ _ _ _ _ _).2⟩,(HC3.out.fin _ _ _ _ _ _).1⟩
theorem refframe_any (s:ByteArray)(pre:List UInt8)(b:UInt8)(w:World)(hs:s.size≤1000000000000)(hb:s.data.toList=pre++[b])(h0:frR pre=none):Calls Tryz.prog 172 #[.string s] w fun r w'=>RefOut w w' (frR s.data.toList) r∧Below w.heap.size w w':=by
 have hll:=len_size' s;by_cases h7:s.size<7
 ·have:frR s.data.toList=none:=by unfold frR;rw[if_pos (by omega)]
  rw[this];exact refframe_short s w h7
 ·cases hh:frHead s.data.toList with
  |false=>
   have:frR s.data.toList=some ⟨wrongC formB true,7,false⟩:=by unfold frR;rw[if_neg (by omega),if_pos hh]
   rw[this];exact refframe_bad s w hs (by omega) hh
  |true=>exact refframe_good s w hs (by omega) hh (fun hl=>by have:=fr_len hb h0 (by omega) hh (by omega);omega)
end Go.Proofs.YtlonjggfnleolaaGreatDoor
