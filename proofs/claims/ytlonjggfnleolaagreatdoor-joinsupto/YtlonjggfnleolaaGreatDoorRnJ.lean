import Derived.Test.YtlonjggfnleolaaGreatDoorRnJa
namespace Go.Proofs.YtlonjggfnleolaaGreatDoor
open Go.RowKit Go.Shelf
set_option linter.unusedVariables false
set_option maxHeartbeats 4000000
set_option maxRecDepth 100000
variable {cs:List CliQ}{v:RCliV}{s:CliQ}{u:RQI}
theorem DialQ.fail (h:DialQ cs)(o:Nat):DialQ (cs.map (failC o)):=fun s hs=>by
 obtain⟨s',h1,rfl⟩:=List.mem_map.1 hs
 exact h s' h1
section
variable {w wr:World}{X sv pt win:Nat}{cv rv:Value}{cis:List RCliV}{cs cs':List CliQ}{vs:List Nat}{ss:List SrvQ}{o j q r:Nat}
theorem RJunQ.cellsC (h:RJunQ wr X sv pt win cv rv cis cs vs ss)(hv:cis[j]?=some v):∃s g cap wa wc,cs[j]?=some s∧cv= .slice (some ⟨g,0,none⟩) cis.length cap∧wr.cell? ⟨X,3,none⟩=some cv∧X<wr.heap.size∧g<wr.heap.size∧wr.cell? ⟨g,j,none⟩=some (.pointer (some ⟨v.K,0,none⟩))∧v.K<wr.heap.size∧wr.cell? ⟨v.K,2,none⟩=some (.slice wa v.ws.length wc)∧OffRow wr 263 (.slice wa v.ws.length wc) (v.ws.map (fun u=>ptrV u.B))∧v.ws.length=s.qs.length∧v.ws.length≤6:=by
 obtain⟨s,hs,hok⟩:=h.get hv;obtain⟨g,cap,e,hgl,hg⟩:=row_at h.crow (by simp) (i:=j) (x:=ptrV v.K) (by rw[List.getElem?_map,hv];rfl);obtain⟨wa,wc,hwv⟩:=hok.row.len;rw[List.length_map]at hwv;have hK:=hok.blk;unfold rcO at hK;have k2:=blkCell hK 2;simp at k2;have hX:=h.blk;unfold rjO at hX;have c3:=blkCell hX 3;simp at c3;have h1:=h.wl s (List.mem_of_getElem? hs);have h2:=h.w6;have h3:=hok.len;exact⟨s,g,cap,wa,wc,hs,e,c3,blkLt hX,hgl,hg,blkLt hK,by rw[k2,hwv],by rw[←hwv];exact hok.row,h3,by omega⟩
theorem RJunQ.cellsW (h:RJunQ wr X sv pt win cv rv cis cs vs ss)(hv:cis[j]?=some v)(hs:cs[j]?=some s)(hu:v.ws[q]?=some u):∃x pa pc,s.qs[q]?=some x∧u.B<wr.heap.size∧wr.cell? ⟨u.B,6,none⟩=some (.slice pa u.bs.length pc)∧u.pv= .slice pa u.bs.length pc∧u.bs.length=x.ps.length∧u.bs.length≤4:=by
 have hok:=h.cli j v s hv hs;have hk2:q<s.qs.length:=by rw[←hok.len];exact(List.getElem?_eq_some_iff.1 hu).1
 have hx:=List.getElem?_eq_getElem hk2;have hqu:=hok.qu q u _ hu hx;have ho:=hok.ok _ (List.getElem_mem hk2);obtain⟨pa,pc,hpv⟩:=row_form hqu.row;have hB:=hqu.blk;unfold rwO at hB;have b6:=blkCell hB 6;simp at b6;have h1:=ho.len;have h2:=ho.w.cm.k4;have h3:=hqu.len;exact⟨_,pa,pc,hx,blkLt hB,by rw[b6,hpv],hpv,h3,by omega⟩
theorem RJunQ.cellsP (h:RJunQ wr X sv pt win cv rv cis cs vs ss){x:QS}{b:Nat}(hv:cis[j]?=some v)(hs:cs[j]?=some s)(hu:v.ws[q]?=some u)(hx:s.qs[q]?=some x)(hb:u.bs[r]?=some b):∃p g cap,x.ps[r]?=some p∧RPartQ wr b p∧u.pv= .slice (some ⟨g,0,none⟩) u.bs.length cap∧g<wr.heap.size∧wr.cell? ⟨g,r,none⟩=some (.pointer (some ⟨b,0,none⟩)):=by
 have hqu:=(h.cli j v s hv hs).qu q u x hu hx;obtain⟨g,cap,e,hgl,hg⟩:=row_at hqu.row (by simp) (i:=r) (x:=ptrV b) (by rw[List.getElem?_map,hb];rfl);have hr2:r<x.ps.length:=by rw[←hqu.len];exact(List.getElem?_eq_some_iff.1 hb).1
 exact⟨_,g,cap,List.getElem?_eq_getElem hr2,hqu.ok r b _ hb (List.getElem?_eq_getElem hr2),e,hgl,hg⟩
end
theorem rfalls {w:World}{X sv pt win:Nat}{cv rv:Value}{cis:List RCliV}{vs:List Nat}{ss:List SrvQ}(h:RJunQ w X sv pt win cv rv cis cs vs ss){o:Nat}{su:SrvQ}(hsu:ss[o]?=some su){T:Nat}(hT:T+5000≤100000000000)(hb:BdJ win T cs ss)(hd:DialQ cs):Calls Tryz.prog 152 #[.pointer (some ⟨X,0,none⟩),.int .i64 (o:Int)] w fun e w'=>e= .returned (.tuple #[])∧∃cis',RRan w w' X sv pt win T cv rv cis.length (footRJ X cv cis vs) vs cis' (fallJ sv pt win o (cs,ss)):=by
 obtain⟨S,g,rc,hv,hrv,hgl,hg,hK⟩:=h.srvAt hsu;have hi:=(List.getElem?_eq_some_iff.1 hv).1;obtain⟨ca,cc,rfl⟩:=row_form h.crow;have hX:=h.blk;unfold rjO at hX;have c3:=blkCell hX 3;have c4:=blkCell hX 4;simp at c3 c4;rw[hrv]at c4;have hlX:=blkLt hX;have hc4:=h.c4;have hv4:vs.length≤4:=by rw[h.len];exact h.s4
 have efs:fellS o ss=ss.set o {su with up:=false,held:=[]}:=by unfold fellS;rw[hsu]
 have HSt:Hid (FMid w ((w.setCell ⟨S,0,none⟩ (.bool false)).setCell ⟨S,2,none⟩ (.string ⟨#[]⟩)) X sv pt win (.slice ca cis.length cc) rv cis cs cs vs (fellS o ss) o 0 0 0):=by
  rw[efs];obtain⟨a1,a2⟩:=h.srvSet (s':={su with up:=false,held:=[]}) hv hsu (((Chg.refl [S] w).set (p:=⟨S,0,none⟩) (.inl (by simp)) (.bool false)).set (p:=⟨S,2,none⟩) (.inl (by simp)) (.string ⟨#[]⟩)) ((blkSet (i:=2) (blkSet (i:=0) hK _) _).trans rfl) (h.nx su (List.mem_of_getElem? hsu));exact FMid.start a1 a2
 have HFe:Hid (BdJ win T (cs.map (failC o)) (fellS o ss)∧DialQ (cs.map (failC o))∧cs.length=cis.length):=⟨hb.fell o,hd.fail o,h.cl.symm⟩
 have HR:Hid (∀(wr:World) (cis1:List RCliV) (cs1:List CliQ) (ss1:List SrvQ) (i:Nat) (v:RCliV),RJunQ wr X sv pt win (.slice ca cis.length cc) rv cis1 cs1 vs ss1→cis1[i]?=some v→BdJ win T cs1 ss1→DialQ cs1→Calls Tryz.prog 151 #[.pointer (some ⟨X,0,none⟩),.pointer (some ⟨v.K,0,none⟩)] wr fun e w'=>e= .returned (.tuple #[])∧∃v',v'.K=v.K∧RRan wr w' X sv pt win T (.slice ca cis.length cc) rv cis1.length (footRJ X (.slice ca cis.length cc) cis1 vs) vs (cis1.set i v') (runJ sv pt win i (cs1,ss1))):=fun wr cis1 cs1 ss1 i v h1 hv hb1 hd1=>rserves_jun h1 hv hT hb1 hd1
 unfold rsO at hK;have k0:=blkCell hK 0;have k2:=blkCell hK 2;simp at k0 k2;have kf:=blkFree hK;have hKl:=blkLt hK;have hSX:¬S=X:=fun e=>by rw[e,hX]at hK;simp at hK
 have hgX:¬g=S:=fun e=>by
  obtain⟨cur,hc⟩:=ownsRow_blk h.srow (g:=g) (by rw[hrv];rfl);rw[e,hK]at hc;simp at hc
 have h1:(o:Int)<(vs.length:Int):=by omega
 have h0:¬(o:Int)<0:=by omega
 clear h hX hK hb hd hv hsu efs hrv;generalize hnl:cis.length=n at*;have HN:=hide' hnl;clear hnl;go_enter Tryz.func152,Tryz.ntmps152;go_wp2_with fail
 generalize (w.setCell ⟨S,0,none⟩ (.bool false)).setCell ⟨S,2,none⟩ (.string ⟨#[]⟩)=w1 at*;clear c3 c4 k0 k2 kf hKl hSX hgX h1 h0 hg hgl hi hlX hv4;go_loopw [4,5,6,7] (fun i _ _ _ wr=>∃(j:Nat) (cs':List CliQ),j≤n∧i= .int .i64 (j:Int)∧Hid (FMid w wr X sv pt win (.slice ca n cc) rv cis cs cs' vs (fellS o ss) o j 0 0)) (fun i _ _ _ _=>n-(intOf i).toNat)
 case atStart=>exact⟨0,cs,Nat.zero_le _,rfl,HSt⟩
 case round=>
  obtain⟨j,cs',hj,rfl,HJ⟩:=hrel;by_cases hlt:j<n
  ·have hlt':(j:Int)<(n:Int):=by omega
   obtain⟨v,hv⟩:∃v,cis[j]?=some v:=⟨_,List.getElem?_eq_getElem (by rw[HN.out];exact hlt)⟩
   obtain⟨s,g,cap,wa,wc,hs,e,x3,hXl,hgl,hg,hKl,k2,hrow,hwl,hw6⟩:=HJ.out.jun.cellsC hv;rw[HN.out]at e;cases e;have HV:=hide' hv;clear hv hs hrow hwl;generalize hml:v.ws.length=m at*;have HM:=hide' hml;clear hml;generalize hkk:v.K=K at*;have HKK:=hide' hkk;clear hkk;go_wp2_with fail
   clear x3 hXl hgl hg hKl k2;go_loopw [5,6,7] (fun k _ _ wr=>∃(q:Nat) (cs':List CliQ),q≤m∧k= .int .i64 (q:Int)∧Hid (FMid w wr X sv pt win (.slice (some ⟨g,0,none⟩) n cc) rv cis cs cs' vs (fellS o ss) o j q 0)) (fun k _ _ _=>m-(intOf k).toNat)
   case atStart=>exact⟨0,cs',Nat.zero_le _,rfl,HJ⟩
   case round=>
    obtain⟨q,cs2,hq,rfl,HQ⟩:=hrel;obtain⟨s,g',cap,wa,wc,hs,e,x3,hXl,hgl,hg,hKl,k2,hrow,hwl,_⟩:=HQ.out.jun.cellsC HV.out;rw[HN.out]at e;cases e;rw[HKK.out]at hg hKl k2;have HRow:=hide' hrow;rw[HM.out]at k2 HRow;have HS:=hide' hs;have HWL:=hide' hwl;clear hs hrow hwl;by_cases hlq:q<m
    ·have hlq':(q:Int)<(m:Int):=by omega
     obtain⟨u,hu⟩:∃u,v.ws[q]?=some u:=⟨_,List.getElem?_eq_getElem (by rw[HM.out];exact hlq)⟩
     obtain⟨g2,off,c2,hv3,hc2,hg2l,hg2c⟩:=HRow.out.at_ (i:=q) (x:=ptrV u.B) (by rw[List.getElem?_map,hu];rfl);rw[List.length_map,HM.out]at hv3 hc2;cases hv3;unfold ptrV at hg2c;obtain⟨x,pa,pc,hx,hBl,b6,hpv,hpl0,hpn⟩:=HQ.out.jun.cellsW HV.out HS.out hu;have HU:=hide' hu;clear hu hx hpv hpl0;generalize hpl:u.bs.length=pn at*;have HP:=hide' hpl;clear hpl;generalize hbb:u.B=B at*;have HBB:=hide' hbb;clear hbb;go_wp2_with fail
     clear x3 hXl hgl hg hKl k2 hg2l hg2c hBl b6;go_loopw [7] (fun k wr=>∃(r:Nat) (cs':List CliQ),r≤pn∧k= .int .i64 (r:Int)∧Hid (FMid w wr X sv pt win (.slice (some ⟨g,0,none⟩) n cc) rv cis cs cs' vs (fellS o ss) o j q r)) (fun k _=>pn-(intOf k).toNat)
     case atStart=>exact⟨0,cs2,Nat.zero_le _,rfl,HQ⟩
     case round=>
      obtain⟨r,cs3,hr,rfl,HR3⟩:=hrel;obtain⟨s3,hs3,_⟩:=HR3.out.jun.get HV.out;obtain⟨x3,pa3,pc3,hx3,hBl,b6,hpv,hpl3,_⟩:=HR3.out.jun.cellsW HV.out hs3 HU.out;rw[HBB.out]at hBl b6;rw[HP.out]at b6 hpv hpl3;by_cases hlr:r<pn
      ·have hlr':(r:Int)<(pn:Int):=by omega
       obtain⟨b,hb⟩:∃b,u.bs[r]?=some b:=⟨_,List.getElem?_eq_getElem (by rw[HP.out];exact hlr)⟩
       obtain⟨p,g3,cap3,hp,hpok,epv,hg3l,hg3c⟩:=HR3.out.jun.cellsP HV.out hs3 HU.out hx3 hb;rw[HP.out]at epv;rw[hpv]at epv;cases epv;obtain⟨po,pi,st,kd,val,hpb,hf1,hf2⟩:=hpok.cellsF o;unfold rpO at hpb;have p0:=blkCell hpb 0;have p2:=blkCell hpb 2;simp at p0 p2;have hpbl:=blkLt hpb;have pf:=blkFree hpb;by_cases hop:po=o∧st=0
       ·obtain⟨id,hid⟩:=hf1 hop;subst hid;have HF:=hide' ((HR3.out.fail HV.out hs3 HU.out hx3 hb hp));obtain⟨e1,e2⟩:=hop;subst e1 e2;clear hpok hpb hp hb hf1 hf2 hpv hx3 hs3 hpl3;go_wp2;go_roundw;case rel=>exact⟨r+1,_,by omega,by go_num,HF⟩
        case measure=>simp[intOf];omega
       ·have HF:=hide' ((HR3.out.skip hs3 hx3 hp (hf2 hop)));clear hpok hpb hp hb hf1 hf2 hpv hx3 hs3 hpl3;by_cases ho:po=o
        ·subst ho;have hst:¬(st:Int)=0:=by omega
         clear hop;go_wp2;go_roundw;case rel=>exact⟨r+1,cs3,by omega,by go_num,HF⟩
         case measure=>simp[intOf];omega
        ·have ho':¬(po:Int)=(o:Int):=by omega
         clear hop;go_wp2;go_roundw;case rel=>exact⟨r+1,cs3,by omega,by go_num,HF⟩
         case measure=>simp[intOf];omega
      ·have hlr':¬(r:Int)<(pn:Int):=by omega
       have HE:=hide' (HR3.out.endP hs3 hx3 (by omega));clear hpv hx3 hs3 hpl3;go_wp2;go_roundw;case rel=>exact⟨q+1,cs3,by omega,by go_num,HE⟩
       case measure=>simp[intOf];omega
    ·have hlq':¬(q:Int)<(m:Int):=by omega
     have HE:=hide' (HQ.out.endQ HS.out (by have:=HWL.out;have:=HM.out;omega));go_wp2;go_roundw;case rel=>exact⟨j+1,cs2,by omega,by go_num,HE⟩
     case measure=>simp[intOf];omega
  ·have hlt':¬(j:Int)<(n:Int):=by omega
   have hX:=HJ.out.jun.blk;unfold rjO at hX;have x3:=blkCell hX 3;simp at x3;have hXl:=blkLt hX;have e:=HJ.out.endC (by have:=HJ.out.jun.cl;have:=HN.out;omega);have HE:Hid (RRan w wr X sv pt win T (.slice ca n cc) rv n (footRJ X (.slice ca n cc) cis vs) vs cis (cs.map (failC o),fellS o ss)):=by
    have h1:=HJ.out.jun;rw[e]at h1;exact⟨h1,HN.out,HFe.out.1,HFe.out.2.1,HJ.out.chg,Later.refl _ _⟩
   clear e hX;go_wp2_with fail
   clear x3 hXl;go_loopw [8] (fun i wr=>∃(j:Nat) (cis1:List RCliV),j≤n∧i= .int .i64 (j:Int)∧Hid (RRan w wr X sv pt win T (.slice ca n cc) rv n (footRJ X (.slice ca n cc) cis vs) vs cis1 (runsJ sv pt win j (cs.map (failC o),fellS o ss)))) (fun i _=>n-(intOf i).toNat)
   case atStart=>exact⟨0,cis,Nat.zero_le _,rfl,HE⟩
   case round=>
    obtain⟨j,cis1,hj,rfl,HJ4⟩:=hrel;have hX:=HJ4.out.jun.blk;unfold rjO at hX;have x3:=blkCell hX 3;simp at x3;have hXl:=blkLt hX;clear hX;by_cases hlt2:j<n
    ·have hlt2':(j:Int)<(n:Int):=by omega
     obtain⟨v,hv⟩:∃v,cis1[j]?=some v:=⟨_,List.getElem?_eq_getElem (by rw[HJ4.out.ks];exact hlt2)⟩
     obtain⟨s,g,cap,wa,wc,_,e,_,_,hgl,hg,_⟩:=HJ4.out.jun.cellsC hv;rw[HJ4.out.ks]at e;cases e;have HRd:=hide' (HR.out wr cis1 _ _ j v HJ4.out.jun hv HJ4.out.bd HJ4.out.di);obtain⟨K,hK⟩:∃K,v.K=K:=⟨_,rfl⟩
     rw[hK]at hg HRd;clear hv hK;go_wp2_with fail
     go_at_call 151;refine HRd.out.mono ?_;rintro e w3 ⟨rfl,v',b1,b2⟩;have H3:=hide' b2;clear b1 b2 HRd;go_wp2;go_roundw;case rel=>
      refine⟨j+1,cis1.set j v',by omega,by go_num,?_⟩;have a:=HJ4.out;have b:=H3.out;rw[runsJ_succ];exact⟨b.jun,b.ks.trans a.ks,b.bd,b.di,a.chg.trans b.chg a.lat,a.lat.trans b.lat a.chg.size⟩
     case measure=>simp[intOf];omega
    ·have hjn:j=n:=by omega
     subst hjn;go_wp2;go_end0;have e:fallJ sv pt win o (cs,ss)=runsJ sv pt win j (cs.map (failC o),fellS o ss):=by
      unfold fallJ;simp only
      rw[HFe.out.2.2]
     rw[e];exact⟨rfl,cis1,HJ4.out⟩
end Go.Proofs.YtlonjggfnleolaaGreatDoor
