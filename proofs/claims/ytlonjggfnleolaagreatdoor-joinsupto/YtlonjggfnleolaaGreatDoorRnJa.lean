import Derived.Test.YtlonjggfnleolaaGreatDoorRnI
namespace Go.Proofs.YtlonjggfnleolaaGreatDoor
open Go.RowKit Go.Shelf
set_option linter.unusedVariables false
variable {W W':World}{u:RQI}{x:QS}{m b k:Nat}{p' p:PS}{v:RCliV}{s:CliQ}
theorem feetRQ_nd {ws:List RQI}(h:(feetRQ ws).Nodup):(∀u∈ws,u.foot.Nodup)∧∀(i j:Nat) (u v:RQI),i≠j→ws[i]?=some u→ws[j]?=some v→∀b∈u.foot,b∉v.foot:=by
 unfold feetRQ List.Nodup at h;rw[List.pairwise_flatten]at h;obtain⟨h1,h2⟩:=h;refine⟨fun u hu=>h1 _ (List.mem_map.2 ⟨u,hu,rfl⟩),?_⟩;rw[List.pairwise_map,List.pairwise_iff_getElem]at h2;intro i j u v hij hu hv b hb hb2;obtain⟨hi,rfl⟩:=List.getElem?_eq_some_iff.1 hu;obtain⟨hj,rfl⟩:=List.getElem?_eq_some_iff.1 hv;rcases Nat.lt_or_gt_of_ne hij with h|h
 ·exact h2 i j hi hj h b hb b hb2 rfl
 ·exact h2 j i hj hi h b hb2 b hb rfl
theorem RQuAt.partTo (h:RQuAt W u x)(hn:u.foot.Nodup)(hb:u.bs[m]?=some b)(k:Chg [b] W W')(hp:RPartQ W' b p'):RQuAt W' u ⟨x.c,x.ps.set m p'⟩:=by
 have hml:=(List.getElem?_eq_some_iff.1 hb).1;obtain⟨Zb,hZb⟩:∃Z,W.heap[b]?=some (.cells Z 253 (0,0)):=by
  obtain⟨i,p,_,_,hq⟩:=h.part (List.mem_of_getElem? hb);exact hq.blk
 have nT:∀{a T:Nat} {Z:Array Value},W.heap[a]?=some (.cells Z T (0,0))→T≠253→W'.heap[a]?=W.heap[a]?:=fun ha hT=>k.block _ (blkLt ha) (fun e=>by
  simp at e;rw[e,hZb]at ha;simp at ha;exact hT ha.2.symm)
 have hnb:u.bs.Nodup:=by
  unfold RQI.foot at hn;have h1:=(List.nodup_cons.1 hn).2;exact(List.nodup_append.1 (List.nodup_append.1 h1).2.1).2.1
 have hB:=h.blk;unfold rwO at hB;refine⟨(nT hB (by decide)).trans h.blk,ownsRow_other h.row (fun g hg=>by obtain⟨cur,hc⟩:=ownsRow_blk h.row hg;exact nT hc (by decide)),by show _=(x.ps.set m p').length;rw[List.length_set];exact h.len,fun i b' p hb' hp'=>?_,h.keys.keep k.size (fun a ha=>?_)⟩
 ·have hp2:(x.ps.set m p')[i]?=some p:=hp';by_cases e:m=i
  ·subst e;rw[List.getElem?_set_self (by rw[←h.len];exact hml)]at hp2;rw[hb]at hb';cases hb';cases hp2;exact hp
  ·rw[List.getElem?_set_ne e]at hp2;have ho:=h.ok i b' p hb' hp2;obtain⟨Z2,hZ2⟩:=ho.blk;refine ho.keep (k.block b' (blkLt hZ2) (fun hm=>?_));simp at hm;subst hm;exact e ((List.getElem?_inj hml hnb).1 (hb.trans hb'.symm))
 ·rcases h.keys with⟨e,_⟩|⟨b',o,c,Z,e1,e2,e3,e4⟩
  ·rw[e]at ha;cases ha
  ·rw[e1]at ha;cases ha;exact nT e3 (by decide)
theorem RCliQ.partTo (h:RCliQ W v s)(hu:v.ws[k]?=some u)(hx:s.qs[k]?=some x)(hb:u.bs[m]?=some b)(c:Chg [b] W W')(hp:RPartQ W' b p')(hok:PSOk x.c.kind p'):RCliQ W' v {s with qs:=s.qs.set k ⟨x.c,x.ps.set m p'⟩}∧Chg v.foot W W':=by
 obtain⟨n1,n2⟩:=feetRQ_nd h.nd;have hkl:=(List.getElem?_eq_some_iff.1 hx).1;have hq:=h.qu k u x hu hx;have hbu:b∈u.foot:=by unfold RQI.foot;simp[List.mem_of_getElem? hb]
 obtain⟨Zb,hZb⟩:∃Z,W.heap[b]?=some (.cells Z 253 (0,0)):=by
  obtain⟨i,p,_,_,hq⟩:=hq.part (List.mem_of_getElem? hb);exact hq.blk
 have nT:∀{a T:Nat} {Z:Array Value},W.heap[a]?=some (.cells Z T (0,0))→T≠253→W'.heap[a]?=W.heap[a]?:=fun ha hT=>c.block _ (blkLt ha) (fun e=>by
  simp at e;rw[e,hZb]at ha;simp at ha;exact hT ha.2.symm)
 have hK:=h.blk;unfold rcO at hK;have hY:=h.rd.at_;unfold refO at hY;refine⟨⟨(nT hK (by decide)).trans h.blk,⟨(nT hY (by decide)).trans h.rd.at_,h.rd.ok⟩,h.row.other (fun g hg=>by obtain⟨cur,hc⟩:=h.row.blk hg;exact nT hc (by decide)),by show _=(s.qs.set k _).length;rw[List.length_set];exact h.len,fun i u2 x2 hu2 hx2=>?_,h.nd,fun y hy=>?_⟩,c.more (fun a ha=>?_)⟩
 ·have hx3:(s.qs.set k ⟨x.c,x.ps.set m p'⟩)[i]?=some x2:=hx2;by_cases e:k=i
  ·subst e;rw[List.getElem?_set_self hkl]at hx3;rw[hu]at hu2;cases hu2;cases hx3;exact hq.partTo (n1 u (List.mem_of_getElem? hu)) hb c hp
  ·rw[List.getElem?_set_ne e]at hx3;have h2:=h.qu i u2 x2 hu2 hx3;exact h2.keep c.size (fun a ha=>c.block a (h2.old a ha) (fun hm=>by
    simp at hm;subst hm;exact n2 k i u u2 e hu hu2 a hbu ha))
 ·rcases List.mem_or_eq_of_mem_set hy with h1|h1
  ·exact h.ok y h1
  ·have h0:=h.ok x (List.mem_of_getElem? hx);rw[h1];exact⟨h0.w,by show(x.ps.set m p').length=_;rw[List.length_set];exact h0.len,fun p hp=>by
    rcases List.mem_or_eq_of_mem_set hp with h3|h3
    ·exact h0.ps p h3
    ·rw[h3];exact hok⟩
 ·simp at ha;rw[ha];unfold RCliV.foot;exact List.mem_cons_of_mem _ (List.mem_cons_of_mem _ (List.mem_append.2 (.inr (mem_feetRQ.2 ⟨u,List.mem_of_getElem? hu,hbu⟩))))
section
variable {w wr w':World}{X sv pt win:Nat}{cv rv:Value}{cis:List RCliV}{cs cs':List CliQ}{vs:List Nat}{ss:List SrvQ}{o j q r:Nat}
theorem RJunQ.partTo (h:RJunQ w X sv pt win cv rv cis cs vs ss){i:Nat}(hv:cis[i]?=some v)(hs:cs[i]?=some s)(hu:v.ws[k]?=some u)(hx:s.qs[k]?=some x)(hb:u.bs[m]?=some b)(c:Chg [b] w w')(hp:RPartQ w' b p')(hok:PSOk x.c.kind p'):RJunQ w' X sv pt win cv rv cis (cs.set i {s with qs:=s.qs.set k ⟨x.c,x.ps.set m p'⟩}) vs ss∧Chg (footRJ X cv cis vs) w w':=by
 obtain⟨a1,a2⟩:=(h.cli i v s hv hs).partTo hu hx hb c hp hok;obtain⟨b1,_⟩:=h.cliTo hv a2 a1 rfl (Later.refl _ _) (by show(s.qs.set k _).length≤win;rw[List.length_set];exact h.wl s (List.mem_of_getElem? hs));rw[set_same hv]at b1;exact⟨b1,a2.more (fun b hb=>mem_footRJ.2 (.inr (.inr (.inl ⟨i,v,hv,hb⟩))))⟩
structure FMid (w wr:World)(X sv pt win:Nat)(cv rv:Value)(cis:List RCliV)(cs cs':List CliQ)(vs:List Nat)(ss:List SrvQ)(o j q r:Nat):Prop where
 jun:RJunQ wr X sv pt win cv rv cis cs' vs ss
 eq:cs'.map (failC o)=cs.map (failC o)
 c1:∀(i:Nat) (s:CliQ),i<j→cs'[i]?=some s→failC o s=s
 c2:∀(s:CliQ) (k:Nat) (x:QS),cs'[j]?=some s→k<q→s.qs[k]?=some x→failQ o x=x
 c3:∀(s:CliQ) (x:QS) (m:Nat) (p:PS),cs'[j]?=some s→s.qs[q]?=some x→m<r→x.ps[m]?=some p→failP o p=p
 chg:Chg (footRJ X cv cis vs) w wr
theorem FMid.start (h:RJunQ wr X sv pt win cv rv cis cs vs ss)(k:Chg (footRJ X cv cis vs) w wr):FMid w wr X sv pt win cv rv cis cs cs vs ss o 0 0 0:=
 ⟨h,rfl,fun _ _ h=>by omega,fun _ _ _ _ h=>by omega,fun _ _ _ _ _ _ h=>by omega,k⟩
theorem FMid.skip (h:FMid w wr X sv pt win cv rv cis cs cs' vs ss o j q r)(hs:cs'[j]?=some s)(hx:s.qs[q]?=some x)(hp:x.ps[r]?=some p)(hf:failP o p=p):FMid w wr X sv pt win cv rv cis cs cs' vs ss o j q (r+1):=
 ⟨h.jun,h.eq,h.c1,h.c2,fun s2 x2 m p2 a1 a2 a3 a4=>by
  by_cases e:m=r
  ·subst e;rw[hs]at a1;cases a1;rw[hx]at a2;cases a2;rw[hp]at a4;cases a4;exact hf
  ·exact h.c3 s2 x2 m p2 a1 a2 (by omega) a4,h.chg⟩
theorem FMid.endP (h:FMid w wr X sv pt win cv rv cis cs cs' vs ss o j q r)(hs:cs'[j]?=some s)(hx:s.qs[q]?=some x)(hr:x.ps.length≤r):FMid w wr X sv pt win cv rv cis cs cs' vs ss o j (q+1) 0:=
 ⟨h.jun,h.eq,h.c1,fun s2 k x2 a1 a2 a3=>by
  by_cases e:k=q
  ·subst e;rw[hs]at a1;cases a1;rw[hx]at a3;cases a3;have:x.ps.map (failP o)=x.ps:=by
    apply List.ext_getElem?;intro m;rw[List.getElem?_map];cases hp:x.ps[m]?with
    |none=>rfl
    |some p=>
     have hm:=(List.getElem?_eq_some_iff.1 hp).1;rw[Option.map_some,h.c3 s x m p hs hx (by omega) hp]
   unfold failQ;rw[this]
  ·exact h.c2 s2 k x2 a1 (by omega) a3,fun _ _ _ _ _ _ h=>by omega,h.chg⟩
theorem FMid.endQ (h:FMid w wr X sv pt win cv rv cis cs cs' vs ss o j q r)(hs:cs'[j]?=some s)(hr:s.qs.length≤q):FMid w wr X sv pt win cv rv cis cs cs' vs ss o (j+1) 0 0:=
 ⟨h.jun,h.eq,fun i s2 a1 a2=>by
  by_cases e:i=j
  ·subst e;rw[hs]at a2;cases a2;have:s.qs.map (failQ o)=s.qs:=by
    apply List.ext_getElem?;intro m;rw[List.getElem?_map];cases hp:s.qs[m]?with
    |none=>rfl
    |some p=>
     have hm:=(List.getElem?_eq_some_iff.1 hp).1;rw[Option.map_some,h.c2 s m p hs (by omega) hp]
   unfold failC;rw[this]
  ·exact h.c1 i s2 (by omega) a2,fun _ _ _ _ h=>by omega,fun _ _ _ _ _ _ h=>by omega,h.chg⟩
theorem FMid.endC (h:FMid w wr X sv pt win cv rv cis cs cs' vs ss o j q r)(hr:cs'.length≤j):cs'=cs.map (failC o):=by
 rw[←h.eq];symm;apply List.ext_getElem?;intro m;rw[List.getElem?_map];cases hp:cs'[m]?with
 |none=>rfl
 |some p=>
  have hm:=(List.getElem?_eq_some_iff.1 hp).1;rw[Option.map_some,h.c1 m p (by omega) hp]
theorem FMid.fail (h:FMid w wr X sv pt win cv rv cis cs cs' vs ss o j q r){id:Nat}(hv:cis[j]?=some v)(hs:cs'[j]?=some s)(hu:v.ws[q]?=some u)(hx:s.qs[q]?=some x)(hb:u.bs[r]?=some b)(hp:x.ps[r]?=some (.op o id)):FMid w (wr.setCell ⟨b,2,none⟩ (.int .i64 2)) X sv pt win cv rv cis cs (cs'.set j {s with qs:=s.qs.set q ⟨x.c,x.ps.set r .fl⟩}) vs ss o j q (r+1):=by
 have hok:=((h.jun.cli j v s hv hs).qu q u x hu hx).ok r b _ hb hp;obtain⟨a1,a2⟩:=h.jun.partTo hv hs hu hx hb ((Chg.refl [b] wr).set (p:=⟨b,2,none⟩) (.inl (by simp)) (.int .i64 2)) (p':= .fl) ⟨o,id,(blkSet (i:=2) hok _).trans rfl⟩ trivial;have hjl:=(List.getElem?_eq_some_iff.1 hs).1;have hql:=(List.getElem?_eq_some_iff.1 hx).1;have hrl:=(List.getElem?_eq_some_iff.1 hp).1;refine⟨a1,?_,fun i s2 b1 b2=>?_,fun s2 k x2 b1 b2 b3=>?_,fun s2 x2 m p b1 b2 b3 b4=>?_,h.chg.trans a2 (fun b hb=> .inl hb)⟩
 ·have e1:failQ o ⟨x.c,x.ps.set r .fl⟩=failQ o x:=by
   unfold failQ;simp only
   rw[List.map_set,show failP o .fl= .fl from rfl,set_same (by rw[List.getElem?_map,hp];simp[failP])]
  have e2:failC o {s with qs:=s.qs.set q ⟨x.c,x.ps.set r .fl⟩}=failC o s:=by
   unfold failC;simp only
   rw[List.map_set,e1,set_same (by rw[List.getElem?_map,hx];rfl)]
  rw[List.map_set,e2,set_same (by rw[List.getElem?_map,hs];rfl)];exact h.eq
 ·rw[List.getElem?_set_ne (by omega)]at b2;exact h.c1 i s2 b1 b2
 ·rw[List.getElem?_set_self hjl]at b1;cases b1;have b4:(s.qs.set q ⟨x.c,x.ps.set r .fl⟩)[k]?=some x2:=b3;rw[List.getElem?_set_ne (by omega)]at b4;exact h.c2 s k x2 hs b2 b4
 ·rw[List.getElem?_set_self hjl]at b1;cases b1;have b5:(s.qs.set q ⟨x.c,x.ps.set r .fl⟩)[q]?=some x2:=b2;rw[List.getElem?_set_self hql]at b5;cases b5;have b6:(x.ps.set r .fl)[m]?=some p:=b4;by_cases e:r=m
  ·subst e;rw[List.getElem?_set_self hrl]at b6;cases b6;rfl
  ·rw[List.getElem?_set_ne e]at b6;exact h.c3 s x m p hs hx (by omega) b6
end
theorem RPartQ.cellsF (h:RPartQ W b p)(o:Nat):∃(po pi st kd:Nat) (val:ByteArray),W.heap[b]?=some (rpO po pi st kd val)∧((po=o∧st=0)→∃id,p= .op o id)∧(¬(po=o∧st=0)→failP o p=p):=by
 cases p using PS.el with
 |un=>exact h.elim
 |op a c=>exact⟨a,c,0,0,_,h,fun e=>⟨c,by rw[e.1]⟩,fun e=>by show(if a=o then PS.fl else PS.op a c)=PS.op a c;rw[if_neg (fun e2=>e ⟨e2,rfl⟩)]⟩
 |an s v=>
  obtain⟨a,c,h⟩:=h;exact⟨a,c,1,s,v,h,fun e=>by simp at e,fun _=>rfl⟩
 |fl=>
  obtain⟨a,c,h⟩:=h;exact⟨a,c,2,0,_,h,fun e=>by simp at e,fun _=>rfl⟩
end Go.Proofs.YtlonjggfnleolaaGreatDoor
