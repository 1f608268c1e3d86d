import Derived.Test.YtlonjggfnleolaaGreatDoorRnA
namespace Go.Proofs.YtlonjggfnleolaaGreatDoor
open Go.RowKit Go.Shelf
set_option linter.unusedVariables false
set_option maxHeartbeats 4000000
set_option maxRecDepth 100000
variable {i:Nat}
def RWOut (cis:List RCliV)(cs:List CliQ)(t:Option (Nat×Nat×Nat))(e:Ending):Prop:=match t with
 |none=>e= .returned (.tuple #[.pointer none,.pointer none,.int .i64 0])
 |some (i,k,m)=>∃v u b,cis[i]?=some v∧v.ws[k]?=some u∧u.bs[m]?=some b∧e= .returned (.tuple #[.pointer (some ⟨v.K,0,none⟩),.pointer (some ⟨b,0,none⟩),.int .i64 (kindAt cs i k)])
theorem drop_cons {α:Type}{l:List α}{x:α}(h:l[i]?=some x):l.drop i=x::l.drop (i+1):=by
 obtain⟨hi,e⟩:=List.getElem?_eq_some_iff.1 h;rw[List.drop_eq_getElem_cons hi,e]
theorem drop_over {α:Type}{l:List α}(h:l.length≤i):l.drop i=[]:=List.drop_eq_nil_iff.2 h
theorem RPartQ.cells {W:World}{b:Nat}{p:PS}(h:RPartQ W b p)(o id:Nat):∃(po pi st kd:Nat) (val:ByteArray),W.heap[b]?=some (rpO po pi st kd val)∧(isOp o id p=true↔(po=o∧pi=id∧st=0)):=by
 cases p using PS.el with
 |un=>exact h.elim
 |op a c=>exact⟨a,c,0,0,_,h,by simp[isOp]⟩
 |an s v=>
  obtain⟨a,c,h⟩:=h;exact⟨a,c,1,s,v,h,by simp[isOp]⟩
 |fl=>
  obtain⟨a,c,h⟩:=h;exact⟨a,c,2,0,_,h,by simp[isOp]⟩
theorem rwaitsQ {w:World}{X sv pt win:Nat}{cv rv:Value}{cis:List RCliV}{cs:List CliQ}{vs:List Nat}{ss:List SrvQ}(h:RJunQ w X sv pt win cv rv cis cs vs ss)(o id:Nat):Calls Tryz.prog 153 #[.pointer (some ⟨X,0,none⟩),.int .i64 (o:Int),.int .i64 (id:Int)] w fun e w'=>RWOut cis cs (findP o id cs 0) e∧∃q,w'=w.drewN q:=by
 obtain⟨ca,cc,rfl⟩:=row_form h.crow;have hb:=h.blk;unfold rjO at hb;have c3:=blkCell hb 3;simp at c3;have hlX:=blkLt hb;have hn:=h.c4;have HC:Hid (∀(j:Nat) (v:RCliV),cis[j]?=some v→∃g cap,Value.slice ca cis.length cc= .slice (some ⟨g,0,none⟩) cis.length cap∧g<w.heap.size∧w.cell? ⟨g,j,none⟩=some (.pointer (some ⟨v.K,0,none⟩))):=fun j v hv=>row_at h.crow (by simp) (by rw[List.getElem?_map,hv];rfl)
 have HK:Hid (∀(j:Nat) (v:RCliV),cis[j]?=some v→∃s,cs[j]?=some s∧RCliQ w v s∧s.qs.length≤6):=fun j v hv=>by
  obtain⟨s,hs,hok⟩:=h.get hv;have h1:=h.wl s (List.mem_of_getElem? hs);have h2:=h.w6;exact⟨s,hs,hok,by omega⟩
 have HCL:Hid (cs.length=cis.length):=h.cl.symm;clear h hb;generalize hnl:cis.length=n at*;have HN:=hide' hnl;clear hnl;generalize htg:findP o id cs 0=tg;have HT0:=hide' htg;clear htg;go_enter Tryz.func153,Tryz.ntmps153;go_wp2;go_loop [9,10,11,12,13] (fun i _ _ _ _=>∃j:Nat,i= .int .i64 (j:Int)∧j≤n∧Hid (findP o id (cs.drop j) j=tg)) (fun i _ _ _ _=>n-(intOf i).toNat)
 case atStart=>exact⟨0,rfl,Nat.zero_le _,HT0⟩
 case round=>
  obtain⟨j,rfl,hj,HTj⟩:=hrel;by_cases hlt:j<n
  ·have hlt':(j:Int)<(n:Int):=by omega
   obtain⟨v,hv⟩:∃v,cis[j]?=some v:=⟨_,List.getElem?_eq_getElem (by rw[HN.out];exact hlt)⟩
   obtain⟨g,cap,hv2,hgl,hgc⟩:=HC.out j v hv;cases hv2;obtain⟨s1,hs1,hok,hwl⟩:=HK.out j v hv;have HTj2:=HTj.out;rw[drop_cons hs1]at HTj2;unfold findP at HTj2;have HTK:=hide' HTj2;have HV:=hide' (And.intro hv hs1);have hK:=hok.blk;unfold rcO at hK;have k2:=blkCell hK 2;simp at k2;have hKl:=blkLt hK;obtain⟨wa,wc,hwv⟩:=hok.row.len;rw[List.length_map]at hwv;rw[hwv]at k2;have HRow:Hid (OffRow w 263 (.slice wa v.ws.length wc) (v.ws.map (fun u=>ptrV u.B))):=by rw[←hwv];exact hok.row
   have HWs:Hid (∀(k:Nat) (u:RQI),v.ws[k]?=some u→∃x,s1.qs[k]?=some x∧RQuAt w u x∧x.ps.length≤4):=fun k u hu=>by
    have hk2:k<s1.qs.length:=by rw[←hok.len];exact(List.getElem?_eq_some_iff.1 hu).1
    have hx:=hok.ok _ (List.getElem_mem hk2);have:=hx.len;have:=hx.w.cm.k4;exact⟨_,List.getElem?_eq_getElem hk2,hok.qu k u _ hu (List.getElem?_eq_getElem hk2),by omega⟩
   have HQL:Hid (s1.qs.length=v.ws.length):=hok.len.symm;have hwn:v.ws.length≤6:=by rw[hok.len];exact hwl
   clear hok hK hwv hwl hv hs1 HTj2;generalize hml:v.ws.length=m at*;have HM:=hide' hml;clear hml;generalize hkk:v.K=K at*;have HKK:=hide' hkk;clear hkk;go_wp2;go_loop [11,12,13] (fun k _ _=>∃q:Nat,k= .int .i64 (q:Int)∧q≤m∧Hid (findK o id (s1.qs.drop q) q=findK o id s1.qs 0)) (fun k _ _=>m-(intOf k).toNat)
   case atStart=>exact⟨0,rfl,Nat.zero_le _,rfl⟩
   case round=>
    obtain⟨q,rfl,hq,HTq⟩:=hrel;by_cases hlq:q<m
    ·have hlq':(q:Int)<(m:Int):=by omega
     obtain⟨u,hu⟩:∃u,v.ws[q]?=some u:=⟨_,List.getElem?_eq_getElem (by rw[HM.out];exact hlq)⟩
     obtain⟨g2,off,c2,hv3,hc2,hg2l,hg2c⟩:=HRow.out.at_ (i:=q) (x:=ptrV u.B) (by rw[List.getElem?_map,hu];rfl);rw[List.length_map,HM.out]at hv3 hc2;cases hv3;unfold ptrV at hg2c;obtain⟨x,hx,hqu,hk4⟩:=HWs.out q u hu;have HTq2:=HTq.out;rw[drop_cons hx]at HTq2;conv at HTq2=>lhs;unfold findK
     have HTM:=hide' HTq2;have HU:=hide' (And.intro hu hx);have hB:=hqu.blk;unfold rwO at hB;have b0:=blkCell hB 0;have b6:=blkCell hB 6;simp at b0 b6;have hBl:=blkLt hB;obtain⟨pa,pc,hpv⟩:=row_form hqu.row;rw[hpv]at b6;have HPs:Hid (∀(r:Nat) (b:Nat),u.bs[r]?=some b→(∃g cap,Value.slice pa u.bs.length pc= .slice (some ⟨g,0,none⟩) u.bs.length cap∧g<w.heap.size∧w.cell? ⟨g,r,none⟩=some (.pointer (some ⟨b,0,none⟩)))∧∃p,x.ps[r]?=some p∧RPartQ w b p):=fun r b hb=>⟨by
      have:=row_at hqu.row (by simp) (i:=r) (x:=ptrV b) (by rw[List.getElem?_map,hb];rfl);rw[hpv]at this;exact this,by
      have hr2:r<x.ps.length:=by rw[←hqu.len];exact(List.getElem?_eq_some_iff.1 hb).1
      exact⟨_,List.getElem?_eq_getElem hr2,hqu.ok r b _ hb (List.getElem?_eq_getElem hr2)⟩⟩
     have HPL:Hid (x.ps.length=u.bs.length):=hqu.len.symm;have hpn:u.bs.length≤4:=by rw[hqu.len];exact hk4
     clear hqu hB hpv hk4 hu hx HTq2;generalize hpl:u.bs.length=pn at*;have HP:=hide' hpl;clear hpl;generalize hbb:u.B=B at*;clear hbb;generalize hck:x.c.kind=ck at*;have HCK:=hide' hck;clear hck;go_wp2;go_loop [12,13] (fun k _=>∃r:Nat,k= .int .i64 (r:Int)∧r≤pn∧Hid (findM o id (x.ps.drop r) r=findM o id x.ps 0)) (fun k _=>pn-(intOf k).toNat)
     case atStart=>exact⟨0,rfl,Nat.zero_le _,rfl⟩
     case round=>
      obtain⟨r,rfl,hr,HTr⟩:=hrel;by_cases hlr:r<pn
      ·have hlr':(r:Int)<(pn:Int):=by omega
       obtain⟨b,hb⟩:∃b,u.bs[r]?=some b:=⟨_,List.getElem?_eq_getElem (by rw[HP.out];exact hlr)⟩
       obtain⟨⟨g3,c3',hv4,hg3l,hg3c⟩,p,hp,hpok⟩:=HPs.out r b hb;cases hv4;obtain⟨po,pi,st,kd,val,hpb,hiff⟩:=hpok.cells o id;have HTr2:=HTr.out;rw[drop_cons hp]at HTr2;conv at HTr2=>lhs;unfold findM
       unfold rpO at hpb;have p0:=blkCell hpb 0;have p1:=blkCell hpb 1;have p2:=blkCell hpb 2;simp at p0 p1 p2;have hpbl:=blkLt hpb;by_cases hop:isOp o id p=true
       ·obtain⟨e1,e2,e3⟩:=hiff.1 hop;subst e1 e2 e3;rw[if_pos hop]at HTr2;have HF:Hid (RWOut cis cs tg (.returned (.tuple #[.pointer (some ⟨K,0,none⟩),.pointer (some ⟨b,0,none⟩),.int .i64 ck]))):=by
         have a1:=HTM.out;rw[←HTr2]at a1;simp only at a1;have a2:=HTK.out;rw[←a1]at a2;simp only at a2;show RWOut cis cs tg _;rw[←a2];refine⟨v,u,b,HV.out.1,HU.out.1,hb,?_⟩;have ek:kindAt cs j q=ck:=by
          unfold kindAt;rw[HV.out.2];simp only
          rw[HU.out.2];exact HCK.out
         rw[HKK.out,ek]
        clear hpok hpb hp hb hop hiff HTr2;go_wp2;go_quiet (fail)
        go_wp2;refine bodyPost_ret (v:= .tuple #[.pointer (some ⟨K,0,none⟩),.pointer (some ⟨b,0,none⟩),.int .i64 ck]) (by simp[results,Tryz.results153,go_sem]) rfl ⟨HF.out,_,rfl⟩
       ·rw[if_neg hop]at HTr2;have HNx:=hide' HTr2;have hno:¬(po=o∧pi=id∧st=0):=fun e=>hop (hiff.2 e)
        clear hpok hpb hp hb hop hiff HTr2;by_cases ho:po=o
        ·subst ho;by_cases hi:pi=id
         ·subst hi;have hst:¬(st:Int)=0:=by omega
          clear hno;go_wp2;go_round
          case rel=>exact⟨r+1,by go_num,by omega,HNx⟩
          case measure=>simp[intOf];omega
         ·have hi':¬(pi:Int)=(id:Int):=by omega
          clear hno;go_wp2;go_round
          case rel=>exact⟨r+1,by go_num,by omega,HNx⟩
          case measure=>simp[intOf];omega
        ·have ho':¬(po:Int)=(o:Int):=by omega
         clear hno;go_wp2;go_round
         case rel=>exact⟨r+1,by go_num,by omega,HNx⟩
         case measure=>simp[intOf];omega
      ·have hlr':¬(r:Int)<(pn:Int):=by omega
       have HNx:Hid (findK o id (s1.qs.drop (q+1)) (q+1)=findK o id s1.qs 0):=by
        have a1:=HTr.out;rw[drop_over (by rw[HPL.out];omega)]at a1;have a2:=HTM.out;rw[←a1]at a2;exact a2
       go_wp2;go_round
       case rel=>exact⟨q+1,by go_num,by omega,HNx⟩
       case measure=>simp[intOf];omega
    ·have hlq':¬(q:Int)<(m:Int):=by omega
     have HNx:Hid (findP o id (cs.drop (j+1)) (j+1)=tg):=by
      have a1:=HTq.out;rw[drop_over (by rw[HQL.out];omega)]at a1;have a2:=HTK.out;rw[←a1]at a2;exact a2
     go_wp2;go_round
     case rel=>exact⟨j+1,by go_num,by omega,HNx⟩
     case measure=>simp[intOf];omega
  ·have hlt':¬(j:Int)<(n:Int):=by omega
   have HF:Hid (RWOut cis cs tg (.returned (.tuple #[.pointer none,.pointer none,.int .i64 0]))):=by
    have a1:=HTj.out;rw[drop_over (by rw[HCL.out];omega)]at a1;show RWOut cis cs tg _;rw[←a1];rfl
   go_wp2;refine bodyPost_ret (v:= .tuple #[.pointer none,.pointer none,.int .i64 0]) (by simp[results,Tryz.results153,go_sem]) rfl ⟨HF.out,0,rfl⟩
end Go.Proofs.YtlonjggfnleolaaGreatDoor
