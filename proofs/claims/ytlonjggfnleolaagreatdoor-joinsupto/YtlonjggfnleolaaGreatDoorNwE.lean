import Derived.Test.YtlonjggfnleolaaGreatDoorRnI
namespace Go.Proofs.YtlonjggfnleolaaGreatDoor
open Go.RowKit Go.Shelf Go.Conc
set_option linter.unusedVariables false
variable {W:World}{C R ch t win:Nat}{d:Int}
def newV (C R ch t:Nat):CliV:=⟨newI C R ch t,[]⟩
def newQ (d:Int):CliQ:=⟨d,st0,[],[]⟩
theorem CliAt.new (hd:dT d t)(hR:W.heap[R]?=some (rdO t (.slice none 0 0) 0 false false))(hch:W.heap[ch]?=some (.chan win #[] false 0 0 false))(hC:W.heap[C]?=some (clO R ch (.slice none 0 0) (.pointer none) (.slice none 0 0))):CliAt W win (newV C R ch t) (newQ d):=by
 have h:=CliOk.new (win:=win) hd hR hch hC;refine⟨⟨h.blk,h.rd,h.di,h.chan,h.row,h.ql,h.bpv,h.bld,h.ab⟩,rfl,⟨rfl,fun i v x hv=>(by simp[newV]at hv),by simp[newV,feetQ]⟩,fun x hx=>(by simp[newQ]at hx)⟩
theorem JunQ.opened {w:World}{X sv pt g sc:Nat}{cv:Value}{cis:List CliV}{cs:List CliQ}{vs:List SrvV}{ss:List SrvQ}(h:JunQ w X sv pt win g sc cv cis cs vs ss){g2 cap2:Nat}(hn:cis.length<4)(hd:dT d t)(k:Chg (X::cv.ownBlock.toList) w W)(hX:W.heap[X]?=some (juO sv pt win (.slice (some ⟨g2,0,none⟩) (cis.length+1) cap2) (.slice (some ⟨g,0,none⟩) sv sc)))(hrow:W.ownsRow 0 116 1 (.slice (some ⟨g2,0,none⟩) (cis.length+1) cap2) (cis.length+1) (cis.map (fun v=>ptrV v.k.C)++[.pointer (some ⟨C,0,none⟩)]))(hg2:cv.ownBlock=some g2∨w.heap.size≤g2)(lC:w.heap.size≤C)(lR:w.heap.size≤R)(lch:w.heap.size≤ch)(hR:W.heap[R]?=some (rdO t (.slice none 0 0) 0 false false))(hch:W.heap[ch]?=some (.chan win #[] false 0 0 false))(hC:W.heap[C]?=some (clO R ch (.slice none 0 0) (.pointer none) (.slice none 0 0))):JunQ W X sv pt win g sc (.slice (some ⟨g2,0,none⟩) (cis.length+1) cap2) (cis++[newV C R ch t]) (cs++[newQ d]) vs ss∧Chg (footQ X cv cis vs) w W∧Later w (footQ X cv cis vs) (footQ X (.slice (some ⟨g2,0,none⟩) (cis.length+1) cap2) (cis++[newV C R ch t]) vs):=by
 have hnew:=CliAt.new hd hR hch hC;have hfoot:∀b∈(newV C R ch t).foot,w.heap.size≤b:=fun b hb=>by
  have hb':b∈[C,ch,R]:=by
   simpa [CliV.foot,newV,newI,CliI.foot,Value.ownBlock,feetQ]using hb
  simp at hb';rcases hb' with e|e|e<;>omega
 have nM:∀(b T:Nat) (Z:Array Value) (f:Nat×Nat),w.heap[b]?=some (.cells Z T f)→T≠129→T≠116→b∉X::cv.ownBlock.toList:=fun b T Z f hZ h1 h2 hm=>by
  rcases List.mem_cons.1 hm with e|e
  ·have hb:=h.blk;unfold juO at hb;rw[←e,hZ]at hb;simp at hb;exact h1 hb.2.1
  ·obtain⟨cur,hc⟩:=ownsRow_blk h.row (optMem e);rw[hZ]at hc;simp at hc;exact h2 hc.2.1
 have nM2:∀(b:Nat) (o:Obj),w.heap[b]?=some o→(∀Z T f,o≠ .cells Z T f)→b∉X::cv.ownBlock.toList:=fun b o ho h1 hm=>by
  rcases List.mem_cons.1 hm with e|e
  ·have hb:=h.blk;unfold juO at hb;rw[←e,ho]at hb;exact h1 _ _ _ (Option.some.inj hb)
  ·obtain⟨cur,hc⟩:=ownsRow_blk h.row (optMem e);rw[ho]at hc;exact h1 _ _ _ (Option.some.inj hc)
 have old:∀(j:Nat) (u:CliV),cis[j]?=some u→∀b∈u.foot,b<w.heap.size:=fun j u hu b hb=>by
  obtain⟨s,hs,hok⟩:=h.get hu;exact hok.old b hb
 have kc:∀(j:Nat) (u:CliV),cis[j]?=some u→∀b∈u.foot,W.heap[b]?=w.heap[b]?:=fun j u hu b hb=>by
  obtain⟨s,hs,hok⟩:=h.get hu;rcases hok.kind b hb with⟨Z,T,f,h1,h2⟩|⟨cap,buf,cl,a,c,tm,h1⟩
  ·exact k.block b (blkLt h1) (nM b T Z f h1 (by rcases h2 with e|e|e|e|e|e|e<;>(subst e;decide)) (by rcases h2 with e|e|e|e|e|e|e<;>(subst e;decide)))
  ·exact k.block b (blkLt h1) (nM2 b _ h1 (fun Z T f e=>by cases e))
 have hsrv:SrvsAt W vs ss:=h.srv.keep (fun b hb=>by
  obtain⟨j,v,hv,hbv⟩:=mem_feetS.1 hb;obtain⟨v',s,hv',hs,hok⟩:=h.srv.get (List.getElem?_eq_some_iff.1 hv).1;rw[hv]at hv';cases hv';rcases hok.kind b hbv with⟨Z,T,f,h1,h2⟩|⟨es,c,h1⟩
  ·exact k.block _ (blkLt h1) (nM _ _ _ _ h1 (by rcases h2 with e|e<;>(subst e;decide)) (by rcases h2 with e|e<;>(subst e;decide)))
  ·exact k.block _ (blkLt h1) (nM2 _ _ h1 (fun Z T f e=>by cases e)))
 obtain⟨Zg,z1,z2⟩:=h.gb;have hcut:∀(j:Nat) (u:CliV),(cis++[newV C R ch t])[j]?=some u→(j<cis.length∧cis[j]?=some u)∨(j=cis.length∧u=newV C R ch t):=fun j u hu=>by
  by_cases hj:j<cis.length
  ·rw[List.getElem?_append_left hj]at hu;exact .inl ⟨hj,hu⟩
  ·have hj2:=(List.getElem?_eq_some_iff.1 hu).1;simp at hj2;have hj3:j=cis.length:=by omega
   subst hj3;rw[List.getElem?_append_right (Nat.le_refl _)]at hu;simp at hu;exact .inr ⟨rfl,hu.symm⟩
 refine⟨⟨hX,⟨Zg,k.keep z1 (nM _ _ _ _ z1 (by decide) (by decide)),z2⟩,h.len,h.s1,h.s4,h.sc_,h.pt_,h.w6,?_,by simp[h.cl],by rw[List.length_append,List.length_singleton];omega,fun i v s hv hs=>?_,fun i j v u hij hv hu b hb hb2=>?_,hsrv,fun i v hv b hb hm=>?_,fun o u hu=>?_,fun s hs=>?_⟩,k.more (fun b hb=>?_),fun b hb=>?_⟩
 ·rw[List.length_append,List.length_singleton,List.map_append];exact hrow
 ·rcases hcut i v hv with⟨hi,hv'⟩|⟨hi,rfl⟩
  ·rw[List.getElem?_append_left (by rw[←h.cl];exact hi)]at hs;have hok:=h.cli i v s hv' hs;exact hok.keep (fun b hb=>kc i v hv' b hb)
  ·rw[List.getElem?_append_right (by rw[hi,h.cl];exact Nat.le_refl _)]at hs;rw[hi,h.cl]at hs;simp at hs;rw[←hs];exact hnew
 ·rcases hcut i v hv with⟨hi,hv'⟩|⟨hi,rfl⟩
  ·rcases hcut j u hu with⟨hj,hu'⟩|⟨hj,rfl⟩
   ·exact h.cap i j v u hij hv' hu' b hb hb2
   ·have h1:=old i v hv' b hb;have h2:=hfoot b hb2;omega
  ·rcases hcut j u hu with⟨hj,hu'⟩|⟨hj,rfl⟩
   ·have h1:=old j u hu' b hb2;have h2:=hfoot b hb;omega
   ·omega
 ·rcases hcut i v hv with⟨hi,hv'⟩|⟨hi,rfl⟩
  ·exact h.ap i v hv' b hb hm
  ·have h1:=h.srv.old b hm;have h2:=hfoot b hb;omega
 ·have e:opnJ (cis++[newV C R ch t]) (cs++[newQ d])=opnJ cis cs:=by
   rw[opnJ_app _ _ _ _ h.cl];show opnJ cis cs++opnJ [newV C R ch t] [newQ d]=_;rw[show opnJ [newV C R ch t] [newQ d]=[]from rfl,List.append_nil]
  rw[e];exact h.mr o u hu
 ·rcases List.mem_append.1 hs with hs|hs
  ·exact h.wl s hs
  ·simp at hs;rw[hs];exact Nat.zero_le _
 ·unfold footQ;rcases List.mem_cons.1 hb with e|e
  ·rw[e];exact List.mem_cons_self ..
  ·exact List.mem_cons_of_mem _ (List.mem_append.2 (.inl e))
 ·unfold footQ at hb⊢;rcases List.mem_cons.1 hb with e|hb
  ·exact .inl (by rw[e];exact List.mem_cons_self ..)
  rcases List.mem_append.1 hb with hb|hb
  ·have e':b=g2:=by simpa [Value.ownBlock]using hb
   rcases hg2 with e2|e2
   ·exact .inl (List.mem_cons_of_mem _ (List.mem_append.2 (.inl (by rw[e2,e'];simp))))
   ·exact .inr (by omega)
  rcases List.mem_append.1 hb with hb|hb
  ·obtain⟨j,u,hu,hbu⟩:=mem_civ.1 hb;rcases hcut j u hu with⟨hj,hu'⟩|⟨hj,rfl⟩
   ·exact .inl (List.mem_cons_of_mem _ (List.mem_append.2 (.inr (List.mem_append.2 (.inl (mem_civ.2 ⟨j,u,hu',hbu⟩))))))
   ·exact .inr (hfoot b hbu)
  ·exact .inl (List.mem_cons_of_mem _ (List.mem_append.2 (.inr (List.mem_append.2 (.inr hb)))))
end Go.Proofs.YtlonjggfnleolaaGreatDoor
namespace Go.Proofs.YtlonjggfnleolaaGreatDoor
open Go.RowKit Go.Shelf
set_option linter.unusedVariables false
theorem RJunQ.opened {w W:World}{X sv pt win:Nat}{cv rv cv':Value}{cis:List RCliV}{cs:List CliQ}{vs:List Nat}{ss:List SrvQ}(h:RJunQ w X sv pt win cv rv cis cs vs ss){K Y:Nat}{d:Int}(hn:cis.length<4)(hsz:w.heap.size≤W.heap.size)(lK:w.heap.size≤K)(lY:w.heap.size≤Y)(k:KeepT [241,243,247,195,263,266,249,253,9] w W)(hX:W.heap[X]?=some (rjO sv pt win cv' rv))(hrow:W.ownsRow 0 244 1 cv' (cis.length+1) (cis.map (fun v=>ptrV v.K)++[ptrV K]))(hY:W.heap[Y]?=some (refO d st0))(hK:W.heap[K]?=some (rcO d Y (.slice none 0 0) [])):RJunQ W X sv pt win cv' rv (cis++[⟨K,Y,.slice none 0 0,[]⟩]) (cs++[newQ d]) vs ss:=by
 have hcut:∀(j:Nat) (u:RCliV),(cis++[(⟨K,Y,.slice none 0 0,[]⟩:RCliV)])[j]?=some u→(j<cis.length∧cis[j]?=some u)∨(j=cis.length∧u=⟨K,Y,.slice none 0 0,[]⟩):=fun j u hu=>by
  by_cases hj:j<cis.length
  ·rw[List.getElem?_append_left hj]at hu;exact .inl ⟨hj,hu⟩
  ·have hj2:=(List.getElem?_eq_some_iff.1 hu).1;simp at hj2;have hj3:j=cis.length:=by omega
   subst hj3;rw[List.getElem?_append_right (Nat.le_refl _)]at hu;simp at hu;exact .inr ⟨rfl,hu.symm⟩
 have hfoot:∀b∈(⟨K,Y,.slice none 0 0,[]⟩:RCliV).foot,w.heap.size≤b:=fun b hb=>by
  have hb':b=K∨b=Y:=by simpa [RCliV.foot,Value.ownBlock,feetRQ]using hb
  rcases hb' with e|e<;>omega
 have old:∀(j:Nat) (u:RCliV),cis[j]?=some u→∀b∈u.foot,b<w.heap.size:=fun j u hu b hb=>by
  obtain⟨s,hs,hok⟩:=h.get hu;exact hok.old b hb
 refine⟨hX,?_,k.row (by simp) h.srow,h.len,h.sl,h.s1,h.s4,h.p1,h.pt_,h.w6,by simp[h.cl],by rw[List.length_append,List.length_singleton];omega,fun i v s hv hs=>?_,fun i j v u hij hv hu b hb hb2=>?_,fun j S s hS hs=>?_,h.sap,fun s hs=>?_,h.nx⟩
 ·rw[List.length_append,List.length_singleton,List.map_append];exact hrow
 ·rcases hcut i v hv with⟨hi,hv'⟩|⟨hi,rfl⟩
  ·rw[List.getElem?_append_left (by rw[←h.cl];exact hi)]at hs;have hok:=h.cli i v s hv' hs;refine hok.keep hsz (fun b hb=>?_);obtain⟨Z,T,h1,h2⟩:=hok.kind b hb;exact k b T Z _ h1 (by rcases h2 with e|e|e|e|e|e|e<;>(subst e;decide))
  ·rw[hi,h.cl,List.getElem?_append_right (Nat.le_refl _)]at hs;simp at hs;rw[←hs];exact⟨hK,⟨hY,st0_ok⟩,.inl ⟨rfl,rfl⟩,rfl,fun i u c hu _=>(by simp at hu),by simp[feetRQ],fun x hx=>(by simp[newQ]at hx)⟩
 ·rcases hcut i v hv with⟨hi,hv'⟩|⟨hi,rfl⟩
  ·rcases hcut j u hu with⟨hj,hu'⟩|⟨hj,rfl⟩
   ·exact h.cap i j v u hij hv' hu' b hb hb2
   ·have h1:=old i v hv' b hb;have h2:=hfoot b hb2;omega
  ·rcases hcut j u hu with⟨hj,hu'⟩|⟨hj,rfl⟩
   ·have h1:=old j u hu' b hb2;have h2:=hfoot b hb;omega
   ·omega
 ·have h1:=h.srv j S s hS hs;have h2:=h1;unfold rsO at h2;exact(k _ _ _ _ h2 (by simp)).trans h1
 ·rcases List.mem_append.1 hs with hs|hs
  ·exact h.wl s hs
  ·simp at hs;rw[hs];exact Nat.zero_le _
end Go.Proofs.YtlonjggfnleolaaGreatDoor
