import Derived.Test.YtlonjggfnleolaaGreatDoorRnKa
namespace Go.Proofs.YtlonjggfnleolaaGreatDoor
open Go.RowKit Go.Shelf
set_option linter.unusedVariables false
set_option maxHeartbeats 3000000
set_option maxRecDepth 100000
theorem ranswerQ_up {w:World}{X sv pt win:Nat}{cv rv:Value}{cis:List RCliV}{cs:List CliQ}{vs:List Nat}{ss:List SrvQ}(h:RJunQ w X sv pt win cv rv cis cs vs ss){o:Nat}{su:SrvQ}(hs:ss[o]?=some su)(piece:ByteArray)(hup:su.up=true){T:Nat}(hT:T+5000≤100000000000)(hbd:BdJ win T cs ss)(hd:DialQ cs)(hl:su.held.length+piece.size≤1000000000000):Calls Tryz.prog 116 #[.pointer (some ⟨X,0,none⟩),.int .i64 (o:Int),.string piece] w fun e w'=>e= .returned (.int .i64 0)∧∃cis',RRan w w' X sv pt win T cv rv cis.length (footRJ X cv cis vs) vs cis' (answeredJ sv pt win o piece.data.toList (cs,ss)):=by
 obtain⟨S,g,c,hv,hrv,hgl,hg,hK⟩:=h.srvAt hs;have hi:=(List.getElem?_eq_some_iff.1 hv).1;have hol:=(List.getElem?_eq_some_iff.1 hs).1;have hb:=h.blk;unfold rjO at hb;have c4:=blkCell hb 4;simp at c4;rw[hrv]at c4;have hlt:=blkLt hb;have HL0:Hid (RLis w (w.setCell ⟨S,2,none⟩ (.string (mkB su.held++piece))) X sv pt win T cv rv cis.length (footRJ X cv cis vs) vs o S (answeredJ sv pt win o piece.data.toList (cs,ss)) cis cs (ss.set o {su with held:=su.held++piece.data.toList}) {su with held:=su.held++piece.data.toList}):=by
  have e:answeredJ sv pt win o piece.data.toList (cs,ss)=listenJ sv pt win o (cs,ss.set o {su with held:=su.held++piece.data.toList}):=by unfold answeredJ;simp only[hs]
  rw[e,mkB_app];obtain⟨a1,a2⟩:=h.srvSet (s':={su with held:=su.held++piece.data.toList}) hv hs ((Chg.refl [S] w).set (p:=⟨S,2,none⟩) (.inl (by simp)) (.string (mkB (su.held++piece.data.toList)))) ((blkSet (i:=2) hK _).trans rfl) (h.nx su (List.mem_of_getElem? hs));exact⟨⟨a1,rfl,hbd.srvSet hs rfl rfl,hd,a2,Later.refl _ _⟩,hv,List.getElem?_set_self hol,hup,rfl⟩
 have HLL:Hid (({su with held:=su.held++piece.data.toList}:SrvQ).held.length≤1000000000000):=by
  show(su.held++piece.data.toList).length≤_;rw[List.length_append,Array.length_toList];exact hl
 generalize hs0:({su with held:=su.held++piece.data.toList}:SrvQ)=s0 at HL0 HLL;generalize hss0:ss.set o s0=ss0 at HL0;generalize htg:answeredJ sv pt win o piece.data.toList (cs,ss)=tg at*;unfold rsO at hK;have k0:=blkCell hK 0;have k2:=blkCell hK 2;simp[hup]at k0 k2;have kf:=blkFree hK;have hKl:=blkLt hK;have h4:=h.s4;have hll:=h.len;have h0:¬(o:Int)<0:=by omega
 have h1:¬(vs.length:Int)≤(o:Int):=by omega
 have h2:(o:Int)<(vs.length:Int):=by omega
 have h5:vs.length≤4:=by omega
 have HT:=hide' hT;obtain⟨n,hn⟩:∃n,cis.length=n:=⟨_,rfl⟩
 obtain⟨M,hM⟩:∃M,footRJ X cv cis vs=M:=⟨_,rfl⟩
 rw[hn,hM]at HL0⊢;have hsz:(mkB su.held).size+piece.size≤1000000000000:=by rw[mkB_size];exact hl
 clear h hb hK hll hbd hd hrv hs0 hss0 htg hv hs hol hT hn hM hl;go_enter Tryz.func116,Tryz.ntmps116;go_wp2_with fail
 generalize w.setCell ⟨S,2,none⟩ (.string (mkB su.held++piece))=w1 at*;clear c4 k0 k2 kf hKl hlt hgl hg h0 h1 h2 hi hsz;go_loopw [8,9,10,11,12] (fun _ _ _ _ _ wr=>∃(cis1:List RCliV) (cs1:List CliQ) (ss1:List SrvQ) (s:SrvQ),s.held.length≤1000000000000∧Hid (RLis w wr X sv pt win T cv rv n M vs o S tg cis1 cs1 ss1 s)) (fun _ _ _ _ _ wr=>hvN wr S)
 case atStart=>exact⟨cis,cs,ss0,s0,HLL.out,HL0⟩
 case round=>
  obtain⟨cis1,cs1,ss1,s,hsl,HJ⟩:=hrel;have hb:=HJ.out.blk;unfold rsO at hb;have k0:=blkCell hb 0;have k2:=blkCell hb 2;simp at k0 k2;have kf:=blkFree hb;have hKl:=blkLt hb;have hhv:=HJ.out.hv;obtain⟨H,hH⟩:∃H,mkB s.held=H:=⟨_,rfl⟩
  have hHl:H.size=s.held.length:=by rw[←hH,mkB_size]
  have HB:Hid (∀(k:Nat) (hk:k<H.size),byAt s.held k=H[k].toNat):=fun k hk=>by
   have e:H.data.toList=s.held:=by rw[←hH,mkB_list]
   rw[←e];exact byAt_str hk
  rw[hH]at k2;have hsl2:H.size≤1000000000000:=by omega
  have HH:=hide' (And.intro hH (And.intro hHl hhv));clear hb hH hhv;by_cases h7:s.held.length<7
  ·have HF:=hide' (HJ.out.stop (hear_short h7));have h7':¬(7:Int)≤(H.size:Int):=by omega
   clear h7 hHl hsl;go_wp2;go_ret;exact⟨rfl,_,HF.out⟩
  ·have h7':(7:Int)≤(H.size:Int):=by omega
   have g0:0<H.size:=by omega
   have g1:1<H.size:=by omega
   have g2:2<H.size:=by omega
   have g3:3<H.size:=by omega
   have g4:4<H.size:=by omega
   have g5:5<H.size:=by omega
   have g6:6<H.size:=by omega
   have e0:=HB.out 0 g0;have e1:=HB.out 1 g1;have e2:=HB.out 2 g2;have e3:numAt s.held 3=H[3].toNat+256*H[4].toNat:=by unfold numAt;rw[HB.out 3 g3,HB.out 4 g4]
   have e5:numAt s.held 5=H[5].toNat+256*H[6].toNat:=by unfold numAt;rw[HB.out 5 g5,HB.out 6 g6]
   have t0:=UInt8.toNat_lt H[0];have t1:=UInt8.toNat_lt H[1];have t2:=UInt8.toNat_lt H[2];have t3:=UInt8.toNat_lt H[3];have t4:=UInt8.toNat_lt H[4];have t5:=UInt8.toNat_lt H[5];have t6:=UInt8.toNat_lt H[6];have HE:=hide' (And.intro h7 (And.intro e0 (And.intro e1 (And.intro e2 (And.intro e3 e5)))));have i0:(0:Int)<(H.size:Int):=by omega
   have i1:(1:Int)<(H.size:Int):=by omega
   have i2:(2:Int)<(H.size:Int):=by omega
   have i3:(3:Int)<(H.size:Int):=by omega
   have i4:(4:Int)<(H.size:Int):=by omega
   have i5:(5:Int)<(H.size:Int):=by omega
   have i6:(6:Int)<(H.size:Int):=by omega
   clear h7 e0 e1 e2 e3 e5 hHl hsl;go_wp2_with fail
   go_region
   have HJ2:=hide' (HJ.out.below (Below.refl _ _).drew);obtain⟨q0,q1,q2,q3,q4,q5⟩:=HE.out;obtain⟨sz,hsz⟩:∃sz:Nat,H[3].toNat+256*H[4].toNat=sz:=⟨_,rfl⟩
   have ez:((H[3].toNat:Int)+(256:Int)*(H[4].toNat:Int))=(sz:Int):=by omega
   rw[hsz]at q4;rw[ez];clear k0 k2 kf hKl;generalize wr.drew=w2 at*;have hb:=HJ2.out.blk;unfold rsO at hb;have k0:=blkCell hb 0;have k2:=blkCell hb 2;simp at k0 k2;have kf:=blkFree hb;have hKl:=blkLt hb;rw[HH.out.1]at k2;clear hb hsz ez HE;have hszl:sz<65536:=by have:=byAt_lt s.held 3;have:=byAt_lt s.held (3+1);unfold numAt at q4;omega
   by_cases hbad:byAt s.held 0≠2∨2<byAt s.held 1∨byAt s.held 2≠0∨40<numAt s.held 3
   ·have HFl:=hide' (HJ2.out.fall HT.out (hear_bad q0 hbad));have hc:(¬(H[0].toNat:Int)=2)∨((H[0].toNat:Int)=2∧(2:Int)<H[1].toNat)∨((H[0].toNat:Int)=2∧¬(2:Int)<H[1].toNat∧¬(H[2].toNat:Int)=0)∨((H[0].toNat:Int)=2∧¬(2:Int)<H[1].toNat∧(H[2].toNat:Int)=0∧(40:Int)<(sz:Int)):=by omega
    clear hbad q0 q1 q2 q3 q4 q5;rcases hc with q1|⟨q1,q2⟩|⟨q1,q2,q3⟩|⟨q1,q2,q3,q4⟩
    all_goals
     go_wp2_with fail
     go_at_call 152
     refine HFl.out.mono ?_
     rintro e w3 ⟨rfl,hf⟩
     have HF:=hide' hf
     clear hf
     go_wp2
     go_ret
     exact⟨rfl,HF.out⟩
   ·have n0:(H[0].toNat:Int)=2:=by omega
    have n1:¬(2:Int)<(H[1].toNat:Int):=by omega
    have n2:(H[2].toNat:Int)=0:=by omega
    have n3:¬(40:Int)<(sz:Int):=by omega
    by_cases hwt:s.held.length<7+numAt s.held 3
    ·have HF:=hide' (HJ2.out.stop (hear_wait q0 hbad hwt));have n4:(H.size:Int)<7+(sz:Int):=by have:=HH.out.2.1;omega
     clear hbad hwt q0 q1 q2 q3 q4 q5;go_wp2;go_ret;exact⟨rfl,_,HF.out⟩
    ·have hfull:=hear_full (cs:=cs1) (o:=o) q0 hbad hwt;have n4:¬(H.size:Int)<7+(sz:Int):=by have:=HH.out.2.1;omega
     have HEx:Hid (H.extract (7+sz) H.size=mkB (s.held.drop (repOf s.held).used)∧H.extract 7 (7+sz)=(repOf s.held).val∧(repOf s.held).st=H[1].toNat):=by
      have e:=HH.out.1;refine⟨?_,?_,q2⟩
      ·show _=mkB (s.held.drop (7+numAt s.held 3));rw[q4,←e,mkB_drop]
      ·show _=bytesOf s.held 7 (numAt s.held 3);rw[q4,←e,extract_mkB,mkB_list,show 7+sz-7=sz by omega];rfl
     have HRW:=hide' (fun(W:World) (hW:Below w2.heap.size w2 W)=>rwaitsQ (HJ2.out.below hW).ran.jun o (numAt s.held 5));have eid:((numAt s.held 5:Nat):Int)=(H[5].toNat:Int)+(256:Int)*(H[6].toNat:Int):=by omega
     rw[eid]at HRW;rw[q2,q4]at hfull;clear hbad hwt q0 q1 q2 q3 q4 q5 eid;have hwrp:IntKind.i64.wrap (IntKind.i64.wrap (H[5].toNat:Int)+IntKind.i64.wrap ((256:Int)*IntKind.i64.wrap (H[6].toNat:Int)))=(H[5].toNat:Int)+(256:Int)*(H[6].toNat:Int):=by
      rw[wrap_small (H[5].toNat:Int) (by omega) (by omega),wrap_small (H[6].toNat:Int) (by omega) (by omega),wrap_small ((256:Int)*(H[6].toNat:Int)) (by omega) (by omega),wrap_small _ (by omega) (by omega)]
     cases hfi:findP o (numAt s.held 5) cs1 0 with
     |none=>
      rw[hfi]at hfull HRW;simp only at hfull;have HFl:=hide' (fun(W:World) (hW:Below w2.heap.size w2 W)=>(HJ2.out.below hW).fall HT.out hfull);have HR2:Hid (∀(W:World),Below w2.heap.size w2 W→Calls Tryz.prog 153 #[.pointer (some ⟨X,0,none⟩),.int .i64 (o:Int),.int .i64 ((H[5].toNat:Int)+(256:Int)*(H[6].toNat:Int))] W fun e w'=>e= .returned (.tuple #[.pointer none,.pointer none,.int .i64 0])∧Below w2.heap.size w2 w'):=fun W hW=>by
       refine(HRW.out W hW).mono ?_;rintro e w' ⟨h1,q,rfl⟩;exact⟨h1,below_drewN hW q⟩
      clear hfull hfi HRW HEx;go_wp2_with fail
      have HR3:=HR2.out w2.drew (Below.refl _ _).drew;rw[←hwrp]at HR3;have HR3:=hide' HR3;clear HR2 hwrp;go_region_held3 (fun _=>True) (trivial) (first
       |(go_at_call 153;refine HR3.out.mono ?_;rintro e w3 ⟨rfl,hb3⟩;have HB3:=hide' hb3;clear hb3)
       |fail)
      all_goals
       have HFl3:=hide' (HFl.out w3 HB3.out)
       clear HFl
       go_wp2_with fail
       go_at_call 152
       refine HFl3.out.mono ?_
       rintro e w4 ⟨rfl,hf⟩
       have HF:=hide' hf
       clear hf
       go_wp2
       go_ret
       exact⟨rfl,HF.out⟩
     |some t=>
      obtain⟨i,k,m⟩:=t;rw[hfi]at hfull HRW;simp only at hfull;obtain⟨j,s1,x,ej,hs1,hx,hp⟩:=findP_some o (numAt s.held 5) cs1 0 i k m hfi;obtain rfl:i=j:=by omega
      obtain⟨v,hv,hcl⟩:=HJ2.out.ran.jun.getC hs1;obtain⟨u,hu⟩:∃u,v.ws[k]?=some u:=⟨_,List.getElem?_eq_getElem (by rw[hcl.len];exact(List.getElem?_eq_some_iff.1 hx).1)⟩
      have hqu:=hcl.qu k u x hu hx;obtain⟨b,hb⟩:∃b,u.bs[m]?=some b:=⟨_,List.getElem?_eq_getElem (by rw[hqu.len];exact(List.getElem?_eq_some_iff.1 hp).1)⟩
      obtain⟨K,hK⟩:∃K,v.K=K:=⟨_,rfl⟩
      have HR2:Hid (∀(W:World),Below w2.heap.size w2 W→Calls Tryz.prog 153 #[.pointer (some ⟨X,0,none⟩),.int .i64 (o:Int),.int .i64 ((H[5].toNat:Int)+(256:Int)*(H[6].toNat:Int))] W fun e w'=>e= .returned (.tuple #[.pointer (some ⟨K,0,none⟩),.pointer (some ⟨b,0,none⟩),.int .i64 (kindAt cs1 i k)])∧Below w2.heap.size w2 w'):=fun W hW=>by
       refine(HRW.out W hW).mono ?_;rintro e w' ⟨⟨v',u',b',h1,h2,h3,h4⟩,q,rfl⟩;rw[hv]at h1;cases h1;rw[hu]at h2;cases h2;rw[hb]at h3;cases h3;rw[hK]at h4;exact⟨h4,below_drewN hW q⟩
      have HR3:=HR2.out w2.drew (Below.refl _ _).drew;rw[←hwrp]at HR3;have HPt:Hid (∀(W:World),Below w2.heap.size w2 W→W.heap[b]?=some (rpO o (numAt s.held 5) 0 0 ⟨#[]⟩)):=fun W hW=>(((HJ2.out.below hW).ran.jun.cli i v s1 hv hs1).qu k u x hu hx).ok m b _ hb hp
      have HVU:=hide' (And.intro hv (And.intro hu (And.intro hb hK)));clear hv hcl hu hqu hb hK hs1 hx hp HR2 HRW hwrp hfi ej;generalize hkd:kindAt cs1 i k=kd at*;clear hkd;have HR3:=hide' HR3;by_cases hmay:sz=0∨(kd=1∧H[1].toNat=0)
      ·rw[if_pos hmay]at hfull;have HFu:=hide' hfull;clear hfull;have hcc:(¬(0:Int)<(sz:Int))∨((0:Int)<(sz:Int)∧kd=1∧(H[1].toNat:Int)=0):=by omega
       clear hmay;have hz7:((7:Int)+(sz:Int)).toNat=7+sz:=by omega
       have HK:Hid (∀(W:World),Below w2.heap.size w2 W→¬b=S∧Calls Tryz.prog 151 #[.pointer (some ⟨X,0,none⟩),.pointer (some ⟨K,0,none⟩)] ((((W.setCell ⟨S,2,none⟩ (.string (H.extract (7+sz) H.size))).setCell ⟨b,2,none⟩ (.int .i64 1)).setCell ⟨b,3,none⟩ (.int .i64 (H[1].toNat:Int))).setCell ⟨b,4,none⟩ (.string (H.extract 7 (7+sz)))) fun e w'=>e= .returned (.tuple #[])∧∃cis' cs' ss' s',RLis w w' X sv pt win T cv rv n M vs o S tg cis' cs' ss' s'∧s'.held.length<s.held.length):=fun W hW=>by
        have hJ:=HJ2.out.below hW;obtain⟨x1,x2,x3⟩:=HEx.out;obtain⟨v1,v2,v3,v4⟩:=HVU.out;obtain⟨g1,⟨o',id',g2⟩,g3⟩:=hJ.got HT.out HFu.out v1 v2 v3 (Wa:=W.setCell ⟨S,2,none⟩ (.string (H.extract (7+sz) H.size))) ((Chg.refl [S] W).set (p:=⟨S,2,none⟩) (.inl (by simp)) _) (by rw[x1];exact(blkSet (i:=2) hJ.blk _).trans rfl);refine⟨g1,?_⟩;rw[←v4];refine g3 _ ((((Chg.refl [b] _).set (p:=⟨b,2,none⟩) (.inl (by simp)) _).set (p:=⟨b,3,none⟩) (.inl (by simp)) _).set (p:=⟨b,4,none⟩) (.inl (by simp)) _) ⟨o',id',?_⟩;rw[x2,x3];exact(blkSet (i:=4) (blkSet (i:=3) (blkSet (i:=2) g2 _) _) _).trans rfl
       clear HVU HFu HEx k0 k2 kf hKl;rcases hcc with z1|⟨z1,z2,z3⟩
       all_goals
        go_wp2_with fail
        go_region_held3 (fun _=>True) (trivial) (first
         |(go_at_call 153;refine HR3.out.mono ?_;rintro e w3 ⟨rfl,hb3⟩;have HB3:=hide' hb3;clear hb3)
         |fail)
        all_goals
         obtain⟨hbS,hcall⟩:=HK.out w3 HB3.out
         try rw[z3]at hcall
         have HC:=hide' hcall
         have hSb:¬S=b:=fun e=>hbS e.symm
         have hpb:=HPt.out w3 HB3.out
         unfold rpO at hpb
         have p2:=blkCell hpb 2
         have p3:=blkCell hpb 3
         have p4:=blkCell hpb 4
         simp at p2 p3 p4
         have pf:=blkFree hpb
         have hbl:=blkLt hpb
         have hSb3:=(HJ2.out.below HB3.out).blk
         unfold rsO at hSb3
         have k2:=blkCell hSb3 2
         simp at k2
         have kf:=blkFree hSb3
         have hKl:=blkLt hSb3
         clear hpb hSb3 hcall HK HPt
         go_wp2_with fail
         go_at_call 151
         refine HC.out.mono ?_
         rintro e w4 ⟨rfl,hf⟩
         have HF:=hide' hf
         clear hf
         go_wp2
         go_roundw
         case rel=>exact HF.out.elim fun c1 h=>h.elim fun c2 h=>h.elim fun c3 h=>h.elim fun c4 h=>⟨c1,c2,c3,c4,by have:=h.2;have:=HH.out.2.1;omega,h.1⟩
         case measure=>exact HF.out.elim fun c1 h=>h.elim fun c2 h=>h.elim fun c3 h=>h.elim fun c4 h=>by rw[h.1.hv,HH.out.2.2];exact h.2
      ·rw[if_neg hmay]at hfull;have HFl:=hide' (fun(W:World) (hW:Below w2.heap.size w2 W)=>(HJ2.out.below hW).fall HT.out hfull);have z1:(0:Int)<(sz:Int):=by omega
       have hcc:(¬kd=1)∨(kd=1∧¬(H[1].toNat:Int)=0):=by omega
       clear hfull hmay HEx HPt HVU;rcases hcc with z2|⟨z2,z3⟩
       all_goals
        go_wp2_with fail
        go_region_held3 (fun _=>True) (trivial) (first
         |(go_at_call 153;refine HR3.out.mono ?_;rintro e w3 ⟨rfl,hb3⟩;have HB3:=hide' hb3;clear hb3)
         |fail)
        all_goals
         have HFl3:=hide' (HFl.out w3 HB3.out)
         clear HFl
         go_wp2_with fail
         go_at_call 152
         refine HFl3.out.mono ?_
         rintro e w4 ⟨rfl,hf⟩
         have HF:=hide' hf
         clear hf
         go_wp2
         go_ret
         exact⟨rfl,HF.out⟩
end Go.Proofs.YtlonjggfnleolaaGreatDoor
