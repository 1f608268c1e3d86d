import Derived.Test.YtlonjggfnleolaaGreatDoorBnO
import Derived.Defers
namespace Go.Proofs.YtlonjggfnleolaaGreatDoor
open Go.RowKit Go.Shelf Go.Conc
set_option linter.unusedVariables false
variable {i win T:Nat}{cis:List CliV}{cs:List CliQ}{v:CliV}{s s':CliQ}{ss' ss:List SrvQ}
theorem split_at {α:Type}{l:List α}{x:α}(h:l[i]?=some x):l=l.take i++x::l.drop (i+1):=by
 obtain⟨hi,e⟩:=List.getElem?_eq_some_iff.1 h;conv=>lhs;rw[←List.take_append_drop i l,List.drop_eq_getElem_cons hi,e]
theorem set_split {α:Type}{l:List α}{x:α}(h:l[i]?=some x)(y:α):l.set i y=l.take i++y::l.drop (i+1):=by
 obtain⟨hi,e⟩:=List.getElem?_eq_some_iff.1 h;rw[List.set_eq_take_append_cons_drop,if_pos hi]
theorem take_set' {α:Type}(l:List α)(i:Nat)(x:α):(l.set i x).take i=l.take i:=by
 apply List.ext_getElem?;intro j;rw[List.getElem?_take,List.getElem?_take];split
 ·rw[List.getElem?_set_ne (by omega)]
 ·rfl
theorem drop_set' {α:Type}(l:List α)(i:Nat)(x:α):(l.set i x).drop (i+1)=l.drop (i+1):=by
 apply List.ext_getElem?;intro j;rw[List.getElem?_drop,List.getElem?_drop,List.getElem?_set_ne (by omega)]
def opnJ (cis:List CliV)(cs:List CliQ):List (Nat×Nat×Value):=(cis.zip cs).flatMap (fun p=>opnV p.1.k.C p.1.qi p.2.qs)
def exJ (cis:List CliV)(cs:List CliQ)(i:Nat):List (Nat×Nat×Value):=opnJ (cis.take i) (cs.take i)++opnJ (cis.drop (i+1)) (cs.drop (i+1))
def opJ (cs:List CliQ):List (Nat×Nat):=cs.flatMap (fun c=>opQs c.qs)
def exAt (cs:List CliQ)(i:Nat):List (Nat×Nat):=opJ (cs.take i)++opJ (cs.drop (i+1))
theorem opnJ_app (A B:List CliV)(A' B':List CliQ)(h:A.length=A'.length):opnJ (A++B) (A'++B')=opnJ A A'++opnJ B B':=by
 unfold opnJ;rw[List.zip_append h,List.flatMap_append]
theorem opnJ_cons (v:CliV)(B:List CliV)(s:CliQ)(B':List CliQ):opnJ (v::B) (s::B')=opnV v.k.C v.qi s.qs++opnJ B B':=by
 unfold opnJ;simp
theorem opnJ_at (h:cis.length=cs.length)(hv:cis[i]?=some v)(hs:cs[i]?=some s):(opnJ cis cs).Perm (exJ cis cs i++opnV v.k.C v.qi s.qs):=by
 have e1:=split_at hv;have e2:=split_at hs;have hi:=(List.getElem?_eq_some_iff.1 hv).1;have e3:opnJ cis cs=opnJ (cis.take i) (cs.take i)++(opnV v.k.C v.qi s.qs++opnJ (cis.drop (i+1)) (cs.drop (i+1))):=by
  conv=>lhs;rw[e1,e2]
  rw[opnJ_app _ _ _ _ (by rw[List.length_take,List.length_take,h]),opnJ_cons]
 rw[e3];unfold exJ;rw[List.append_assoc];exact List.Perm.append_left _ List.perm_append_comm
theorem exJ_set (cis:List CliV)(cs:List CliQ)(i:Nat)(v:CliV)(s:CliQ):exJ (cis.set i v) (cs.set i s) i=exJ cis cs i:=by
 unfold exJ;rw[take_set',take_set',drop_set',drop_set']
theorem forg_opnJ:∀(cis:List CliV) (cs:List CliQ),cis.length=cs.length→(∀(i:Nat) (v:CliV) (s:CliQ),cis[i]?=some v→cs[i]?=some s→v.qi.length=s.qs.length)→forg (opnJ cis cs)=opJ cs:=by
 intro cis;induction cis with
 |nil=>intro cs h _;cases cs with
  |nil=>rfl
  |cons s cs=>simp at h
 |cons v cis ih=>
  intro cs h hq;cases cs with
  |nil=>simp at h
  |cons s cs=>
   rw[opnJ_cons,forg_app,ih cs (by simpa using h) (fun i v s hv hs=>hq (i+1) v s (by simpa using hv) (by simpa using hs))];unfold opJ;rw[List.flatMap_cons];congr 1;exact opnV_forget _ _ _ (hq 0 v s rfl rfl)
theorem opJ_len:∀(cs:List CliQ) (N:Nat),(∀s∈cs,(opQs s.qs).length≤N)→(opJ cs).length≤N*cs.length:=by
 intro cs;induction cs with
 |nil=>intro N _;exact Nat.zero_le _
 |cons s cs ih=>
  intro N h;have h1:=ih N (fun x hx=>h x (by simp[hx]));have h2:=h s (by simp);unfold opJ at h1⊢;rw[List.flatMap_cons,List.length_append,List.length_cons,Nat.mul_add,Nat.mul_one];omega
structure JunQ (W:World)(X sv pt win g sc:Nat)(cv:Value)(cis:List CliV)(cs:List CliQ)(vs:List SrvV)(ss:List SrvQ):Prop where
 blk:W.heap[X]?=some (juO sv pt win cv (.slice (some ⟨g,0,none⟩) sv sc))
 gb:∃Zg,W.heap[g]?=some (.cells Zg 137 (0,0))∧∀(j:Nat) (u:SrvV),vs[j]?=some u→Zg[j]?=some (.pointer (some ⟨u.S,0,none⟩))
 len:vs.length=sv
 s1:1≤sv
 s4:sv≤4
 sc_:sv≤sc
 pt_:pt≤16
 w6:win≤6
 row:W.ownsRow 0 116 1 cv cis.length (cis.map (fun v=>ptrV v.k.C))
 cl:cis.length=cs.length
 c4:cis.length≤4
 cli:∀(i:Nat) (v:CliV) (s:CliQ),cis[i]?=some v→cs[i]?=some s→CliAt W win v s
 cap:∀(i j:Nat) (v u:CliV),i≠j→cis[i]?=some v→cis[j]?=some u→∀b∈v.foot,b∉u.foot
 srv:SrvsAt W vs ss
 ap:∀(i:Nat) (v:CliV),cis[i]?=some v→∀b∈v.foot,b∉feetS vs
 mr:∀(o:Nat) (u:SrvV),vs[o]?=some u→MapR o u.l (opnJ cis cs)
 wl:∀s∈cs,s.qs.length≤win
def footQ (X:Nat)(cv:Value)(cis:List CliV)(vs:List SrvV):List Nat:=X::(cv.ownBlock.toList++((cis.map CliV.foot).flatten++feetS vs))
theorem mem_civ {b:Nat}:b∈(cis.map CliV.foot).flatten↔∃(i:Nat) (v:CliV),cis[i]?=some v∧b∈v.foot:=by
 rw[List.mem_flatten];constructor
 ·rintro ⟨l,hl,hb⟩;obtain⟨v,hv,rfl⟩:=List.mem_map.1 hl;obtain⟨j,hj,e⟩:=List.mem_iff_getElem.1 hv;exact⟨j,v,by rw[List.getElem?_eq_getElem hj,e],hb⟩
 ·rintro ⟨j,v,hv,hb⟩;exact⟨v.foot,List.mem_map.2 ⟨v,List.mem_of_getElem? hv,rfl⟩,hb⟩
section
variable {W:World}{X sv pt win g sc:Nat}{cv:Value}{cis:List CliV}{cs:List CliQ}{vs:List SrvV}{ss:List SrvQ}
theorem JunQ.get (h:JunQ W X sv pt win g sc cv cis cs vs ss)(hv:cis[i]?=some v):∃s,cs[i]?=some s∧CliAt W win v s:=by
 have hi:i<cs.length:=by rw[←h.cl];exact(List.getElem?_eq_some_iff.1 hv).1
 exact⟨_,List.getElem?_eq_getElem hi,h.cli i v _ hv (List.getElem?_eq_getElem hi)⟩
theorem JunQ.getS (h:JunQ W X sv pt win g sc cv cis cs vs ss)(hs:cs[i]?=some s):∃v,cis[i]?=some v∧CliAt W win v s:=by
 have hi:i<cis.length:=by rw[h.cl];exact(List.getElem?_eq_some_iff.1 hs).1
 exact⟨_,List.getElem?_eq_getElem hi,h.cli i _ s (List.getElem?_eq_getElem hi) hs⟩
theorem JunQ.qlen (h:JunQ W X sv pt win g sc cv cis cs vs ss):∀(i:Nat) (v:CliV) (s:CliQ),cis[i]?=some v→cs[i]?=some s→v.qi.length=s.qs.length:=fun i v s hv hs=>(h.cli i v s hv hs).qu.len
theorem JunQ.op24 (h:JunQ W X sv pt win g sc cv cis cs vs ss):∀s∈cs,(opQs s.qs).length≤24:=fun s hs=>by
 obtain⟨i,hi,e⟩:=List.mem_iff_getElem.1 hs
 have e1:cs[i]?=some s:=by rw[List.getElem?_eq_getElem hi,e]
 obtain⟨v,hv,hc⟩:=h.getS e1
 have h1:=opQs_len s.qs 4 (fun x hx=>by
  have:=(hc.ok x hx).len;have:=(hc.ok x hx).w.cm.k4;omega)
 have h2:=h.wl s hs
 have h3:=h.w6
 omega
theorem JunQ.forg_ (h:JunQ W X sv pt win g sc cv cis cs vs ss)(i:Nat):forg (exJ cis cs i)=exAt cs i:=by
 unfold exJ exAt;rw[forg_app];congr 1
 ·refine forg_opnJ _ _ (by rw[List.length_take,List.length_take,h.cl]) (fun j v s hv hs=>?_);rw[List.getElem?_take]at hv hs;split at hv
  ·rw[if_pos ‹_›]at hs;exact h.qlen j v s hv hs
  ·cases hv
 ·refine forg_opnJ _ _ (by rw[List.length_drop,List.length_drop,h.cl]) (fun j v s hv hs=>?_);rw[List.getElem?_drop]at hv hs;exact h.qlen _ v s hv hs
theorem opnJ_part {p:Nat×Nat×Value}(h:p∈opnJ cis cs):∃(i k m:Nat) (v:CliV) (s:CliQ) (vq:QI) (x:QS),cis[i]?=some v∧cs[i]?=some s∧v.qi[k]?=some vq∧s.qs[k]?=some x∧p.2.2=partV v.k.C vq.q m∧x.ps[m]?=some (.op p.1 p.2.1):=by
 unfold opnJ at h;obtain⟨z,hz,h2⟩:=List.mem_flatMap.1 h;obtain⟨i,hi⟩:=List.mem_iff_getElem?.1 hz;rw[List.getElem?_zip_eq_some]at hi;unfold opnV at h2;obtain⟨y,hy,h3⟩:=List.mem_flatMap.1 h2;obtain⟨k,hk⟩:=List.mem_iff_getElem?.1 hy;rw[List.getElem?_zip_eq_some]at hk;obtain⟨m,_,h4,h5⟩:=opQ_part _ _ _ _ _ h3;exact⟨i,k,m,z.1,z.2,y.1,y.2,hi.1,hi.2,hk.1,hk.2,h4,by simpa using h5⟩
theorem JunQ.run (h:JunQ W X sv pt win g sc cv cis cs vs ss)(hv:cis[i]?=some v)(hs:cs[i]?=some s):RunQ W X sv pt win g sc cv (exJ cis cs i) v s vs ss:=by
 refine⟨h.blk,h.gb,h.len,h.s1,h.s4,h.sc_,h.pt_,h.cli i v s hv hs,h.srv,h.ap i v hv,fun o u hu=>(h.mr o u hu).perm (opnJ_at h.cl hv hs),fun p hp=>?_,?_⟩
 ·have hp':p∈opnJ cis cs:=(opnJ_at h.cl hv hs).mem_iff.2 (List.mem_append.2 (.inl hp));obtain⟨i,k,m,v,s,vq,x,_,_,_,_,e,_⟩:=opnJ_part hp';exact⟨_,_,_,e⟩
 ·have e1:(exJ cis cs i).length=(exAt cs i).length:=by rw[←h.forg_ i];unfold forg;rw[List.length_map]
  have h1:=opJ_len (cs.take i) 24 (fun x hx=>h.op24 x (List.mem_of_mem_take hx));have h2:=opJ_len (cs.drop (i+1)) 24 (fun x hx=>h.op24 x (List.mem_of_mem_drop hx));have hi:=(List.getElem?_eq_some_iff.1 hs).1;have h4:=h.c4;have h5:=h.cl;rw[List.length_take]at h1;rw[List.length_drop]at h2;have:(exAt cs i).length=(opJ (cs.take i)).length+(opJ (cs.drop (i+1))).length:=by unfold exAt;rw[List.length_append]
  omega
theorem JunQ.ran {W':World}{vs':List SrvV}(h:JunQ W X sv pt win g sc cv cis cs vs ss){v':CliV}(hv:cis[i]?=some v)(hr:RunQ W' X sv pt win g sc cv (exJ cis cs i) v' s' vs' ss')(hC:v'.k.C=v.k.C)(k:Chg (allQ v vs) W W')(hl:Later W (allQ v vs) (allQ v' vs'))(hw:s'.qs.length≤win):JunQ W' X sv pt win g sc cv (cis.set i v') (cs.set i s') vs' ss'∧Chg (footQ X cv cis vs) W W'∧Later W (footQ X cv cis vs) (footQ X cv (cis.set i v') vs'):=by
 have hil:=(List.getElem?_eq_some_iff.1 hv).1;have hil2:i<cs.length:=by rw[←h.cl];exact hil
 obtain⟨s0,hs0,hok0⟩:=h.get hv;have hmap:(cis.set i v').map (fun v=>ptrV v.k.C)=cis.map (fun v=>ptrV v.k.C):=by
  apply List.ext_getElem?;intro j;rw[List.getElem?_map,List.getElem?_map,List.getElem?_set];split
  ·rename_i e;subst e;rw[hv];simp[hC]
  ·rfl
 have old:∀(j:Nat) (u:CliV),cis[j]?=some u→∀b∈u.foot,b<W.heap.size:=fun j u hu b hb=>by
  obtain⟨s,hs,hok⟩:=h.get hu;exact hok.old b hb
 have kc:∀(j:Nat) (u:CliV),j≠i→cis[j]?=some u→∀b∈u.foot,b∉allQ v vs:=fun j u hj hu b hb hm=>by
  rcases List.mem_append.1 hm with e|e
  ·exact h.cap j i u v hj hu hv b hb e
  ·exact h.ap j u hu b hb e
 have nrow:∀gg,cv.ownBlock=some gg→gg∉allQ v vs:=fun gg hg hm=>by
  obtain⟨cur,hc⟩:=ownsRow_blk h.row hg;rcases List.mem_append.1 hm with e|e
  ·exact hok0.apart hc (by decide) e
  ·exact h.srv.apart hc (by decide) (by decide) e
 have hsub:∀b∈allQ v vs,b∈footQ X cv cis vs:=fun b hb=>by
  unfold footQ;rcases List.mem_append.1 hb with e|e
  ·exact List.mem_cons_of_mem _ (List.mem_append.2 (.inr (List.mem_append.2 (.inl (mem_civ.2 ⟨i,v,hv,e⟩)))))
  ·exact List.mem_cons_of_mem _ (List.mem_append.2 (.inr (List.mem_append.2 (.inr e))))
 refine⟨⟨hr.blk,hr.gb,hr.len,h.s1,h.s4,h.sc_,h.pt_,h.w6,?_,by simp[h.cl],by rw[List.length_set];exact h.c4,fun j u s hu hs=>?_,fun a j u1 u2 hij h1 h2 b hb1 hb2=>?_,hr.srv,fun j u hu b hb hm=>?_,fun o u hu=>?_,fun s hs=>?_⟩,k.more hsub,fun b hb=>?_⟩
 ·rw[hmap,List.length_set];exact ownsRow_other h.row (fun gg hg=>by
   obtain⟨cur,hc⟩:=ownsRow_blk h.row hg;exact k.block gg (blkLt hc) (nrow gg hg))
 ·by_cases hji:i=j
  ·subst hji;rw[List.getElem?_set_self hil]at hu;rw[List.getElem?_set_self hil2]at hs;cases hu;cases hs;exact hr.cli
  ·rw[List.getElem?_set_ne hji]at hu hs;have hok:=h.cli j u s hu hs;exact hok.keep (fun b hb=>k.block b (hok.old b hb) (kc j u (fun e=>hji e.symm) hu b hb))
 ·rw[List.getElem?_set]at h1 h2;split at h1
  ·rename_i e1;subst e1;split at h2
   ·rename_i e2;exact hij e2
   ·simp at h1;subst h1;rcases hl b (List.mem_append.2 (.inl hb1))with h3|h3
    ·exact kc j u2 (fun e=>hij e.symm) h2 b hb2 h3
    ·have:=old j u2 h2 b hb2;omega
  ·split at h2
   ·rename_i e2;subst e2;simp at h2;subst h2;rcases hl b (List.mem_append.2 (.inl hb2))with h3|h3
    ·exact kc a u1 hij h1 b hb1 h3
    ·have:=old a u1 h1 b hb1;omega
   ·exact h.cap a j u1 u2 hij h1 h2 b hb1 hb2
 ·rw[List.getElem?_set]at hu;split at hu
  ·simp at hu;subst hu;exact hr.ap b hb hm
  ·rename_i e;rcases hl b (List.mem_append.2 (.inr hm))with h3|h3
   ·exact kc j u (fun e2=>e e2.symm) hu b hb h3
   ·have:=old j u hu b hb;omega
 ·have hp:=opnJ_at (cis:=cis.set i v') (cs:=cs.set i s') (by simp[h.cl]) (List.getElem?_set_self hil) (List.getElem?_set_self hil2);rw[exJ_set]at hp;exact(hr.mr o u hu).perm hp.symm
 ·rcases List.mem_or_eq_of_mem_set hs with h1|h1
  ·exact h.wl s h1
  ·rw[h1];exact hw
 ·unfold footQ at hb;rcases List.mem_cons.1 hb with e|hb
  ·exact .inl (by rw[e];simp[footQ])
  rcases List.mem_append.1 hb with hb|hb
  ·exact .inl (by unfold footQ;exact List.mem_cons_of_mem _ (List.mem_append.2 (.inl hb)))
  have fromAll:b∈allQ v' vs'→b∈footQ X cv cis vs∨W.heap.size≤b:=fun hm=>by
   rcases hl b hm with h3|h3
   ·exact .inl (hsub b h3)
   ·exact .inr h3
  rcases List.mem_append.1 hb with hb|hb
  ·obtain⟨j,u,hu,hbu⟩:=mem_civ.1 hb;rw[List.getElem?_set]at hu;split at hu
   ·simp at hu;subst hu;exact fromAll (List.mem_append.2 (.inl hbu))
   ·exact .inl (by unfold footQ;exact List.mem_cons_of_mem _ (List.mem_append.2 (.inr (List.mem_append.2 (.inl (mem_civ.2 ⟨j,u,hu,hbu⟩))))))
  ·exact fromAll (List.mem_append.2 (.inr hb))
theorem JunQ.cvLen (h:JunQ W X sv pt win g sc cv cis cs vs ss):∃a c,cv= .slice a cis.length c:=by
 rcases h.row.2 with⟨e,h0⟩|⟨g',cap,cur,e,_⟩
 ·exact⟨_,_,by rw[e,h0]⟩
 ·exact⟨_,_,e⟩
theorem JunQ.cvAt (h:JunQ W X sv pt win g sc cv cis cs vs ss)(hv:cis[i]?=some v):∃gg c,cv= .slice (some ⟨gg,0,none⟩) cis.length c∧gg<W.heap.size∧W.cell? ⟨gg,i,none⟩=some (.pointer (some ⟨v.k.C,0,none⟩)):=by
 have hi:=(List.getElem?_eq_some_iff.1 hv).1;rcases h.row.2 with⟨e,h0⟩|⟨g',cap,cur,e,_,h1,h2,_,_,h5⟩
 ·omega
 ·refine⟨g',cap,e,blkLt h1,?_⟩;rw[blkCell h1 i];have h6:(cur.toList.take (cis.length*1))[i]?=(cis.map (fun v=>ptrV v.k.C))[i]?:=by rw[h5]
  rw[List.getElem?_take_of_lt (by omega),List.getElem?_map,hv]at h6;simpa [ptrV]using h6
end
def heldSum (cs:List CliQ):Nat:=(cs.map (fun s=>s.st.held.length)).sum
theorem heldSum_at (h:cs[i]?=some s):heldSum cs=heldSum (cs.take i)+(s.st.held.length+heldSum (cs.drop (i+1))):=by
 unfold heldSum;conv=>lhs;rw[split_at h]
 rw[List.map_append,List.sum_append,List.map_cons,List.sum_cons]
theorem heldSum_set (h:cs[i]?=some s)(s':CliQ):heldSum (cs.set i s')=heldSum (cs.take i)+(s'.st.held.length+heldSum (cs.drop (i+1))):=by
 unfold heldSum;rw[set_split h,List.map_append,List.sum_append,List.map_cons,List.sum_cons]
structure BdJ (win T:Nat)(cs:List CliQ)(ss:List SrvQ):Prop where
 told:∀s∈cs,s.told.length+1000*(s.qs.length+s.st.held.length)≤T
 wl:∀s∈cs,s.qs.length≤win
 srv:∀u∈ss,u.next<65536∧u.sent.length+4000*heldSum cs≤T
theorem BdJ.at_ (h:BdJ win T cs ss)(hs:cs[i]?=some s):BdQ win T (4000*(heldSum (cs.take i)+heldSum (cs.drop (i+1)))) s ss:=by
 have hm:=List.mem_of_getElem? hs;refine⟨h.told s hm,h.wl s hm,fun u hu=>?_⟩;have:=h.srv u hu;rw[heldSum_at hs]at this;exact⟨this.1,by omega⟩
theorem BdJ.set (h:BdJ win T cs ss)(hs:cs[i]?=some s)(hb:BdQ win T (4000*(heldSum (cs.take i)+heldSum (cs.drop (i+1)))) s' ss'):BdJ win T (cs.set i s') ss':=by
 refine⟨fun x hx=>?_,fun x hx=>?_,fun u hu=>?_⟩
 ·rcases List.mem_or_eq_of_mem_set hx with h1|h1
  ·exact h.told x h1
  ·rw[h1];exact hb.told
 ·rcases List.mem_or_eq_of_mem_set hx with h1|h1
  ·exact h.wl x h1
  ·rw[h1];exact hb.wl
 ·have:=hb.srv u hu;rw[heldSum_set hs];exact⟨this.1,by omega⟩
def runJ (sv pt win i:Nat)(st:List CliQ×List SrvQ):List CliQ×List SrvQ:=
 match st.1[i]?with
 |none=>st
 |some s=>(st.1.set i (servQ sv pt win (exAt st.1 i) (tellQs s) st.2).1,(servQ sv pt win (exAt st.1 i) (tellQs s) st.2).2)
theorem runJ_len (sv pt win i:Nat)(st:List CliQ×List SrvQ):(runJ sv pt win i st).1.length=st.1.length:=by
 unfold runJ;split
 ·rfl
 ·simp
theorem readOn_jun {w:World}{X sv pt g sc:Nat}{cv:Value}{vs:List SrvV}(h:JunQ w X sv pt win g sc cv cis cs vs ss)(hv:cis[i]?=some v)(hT:T+5000≤100000000000)(hb:BdJ win T cs ss):Calls Tryz.prog 59 #[.pointer (some ⟨X,0,none⟩),.pointer (some ⟨v.k.C,0,none⟩)] w fun e w'=>e= .returned (.tuple #[])∧∃v' vs',v'.k.C=v.k.C∧JunQ w' X sv pt win g sc cv (cis.set i v') (runJ sv pt win i (cs,ss)).1 vs' (runJ sv pt win i (cs,ss)).2∧BdJ win T (runJ sv pt win i (cs,ss)).1 (runJ sv pt win i (cs,ss)).2∧Chg (footQ X cv cis vs) w w'∧Later w (footQ X cv cis vs) (footQ X cv (cis.set i v') vs'):=by
 obtain⟨s,hs,_⟩:=h.get hv;have hw6:=h.w6;refine(readOn_runQ (h.run hv hs) hT (by omega) (hb.at_ hs)).mono ?_;rintro e w' ⟨rfl,v',vs',h1,h2,h3,h4,h5⟩;obtain⟨r1,r2,r3⟩:=h.ran hv h1 h2 h4 h5 h3.wl;rw[h.forg_ i]at r1 h3;refine⟨rfl,v',vs',h2,?_,?_,r2,r3⟩
 ·unfold runJ;simp only[hs]
  exact r1
 ·unfold runJ;simp only[hs]
  exact hb.set hs h3
variable {o id m:Nat}{p:Nat×Value}{ps:List PS}{vq:QI}{P Q:List (Nat×Nat×Value)}{e:Nat×Nat×Value}{l:List (Nat×Value)}{W W':World}{c:Cmd}
def isOp (o id:Nat):PS→Bool
 |⟨.inl (some (a,b))⟩=>a==o&&b==id
 |_=>false
theorem isOp_iff {p:PS}:isOp o id p=true↔p= .op o id:=by
 cases p using PS.el with
 |op a b=>simp[isOp]
 |_=>simp[isOp]
def findM (o id:Nat):List PS→Nat→Option Nat
 | [],_=>none
 |p::ps,m=>if isOp o id p=true then some m else findM o id ps (m+1)
def findK (o id:Nat):List QS→Nat→Option (Nat×Nat)
 | [],_=>none
 |x::xs,k=>match findM o id x.ps 0 with
  |some m=>some (k,m)
  |none=>findK o id xs (k+1)
def findP (o id:Nat):List CliQ→Nat→Option (Nat×Nat×Nat)
 | [],_=>none
 |s::cs,i=>match findK o id s.qs 0 with
  |some (k,m)=>some (i,k,m)
  |none=>findP o id cs (i+1)
theorem findM_some (o id:Nat):∀(ps:List PS) (m0 m:Nat),findM o id ps m0=some m→∃j,m=m0+j∧ps[j]?=some (.op o id):=by
 intro ps;induction ps with
 |nil=>intro m0 m h;cases h
 |cons p ps ih=>
  intro m0 m h;unfold findM at h;split at h
  ·rename_i hp;cases h;exact⟨0,rfl,by rw[isOp_iff.1 hp];rfl⟩
  ·obtain⟨j,e,hj⟩:=ih _ _ h;exact⟨j+1,by omega,by simpa using hj⟩
theorem findM_none (o id:Nat):∀(ps:List PS) (m0:Nat),findM o id ps m0=none→∀p∈ps,p≠ .op o id:=by
 intro ps;induction ps with
 |nil=>intro m0 h p hp;cases hp
 |cons p ps ih=>
  intro m0 h q hq;unfold findM at h;split at h
  ·cases h
  ·rename_i hn;rcases List.mem_cons.1 hq with e|e
   ·rw[e];intro e2;exact hn (isOp_iff.2 e2)
   ·exact ih _ h q e
theorem findK_some (o id:Nat):∀(xs:List QS) (k0 k m:Nat),findK o id xs k0=some (k,m)→∃j x,k=k0+j∧xs[j]?=some x∧x.ps[m]?=some (.op o id):=by
 intro xs;induction xs with
 |nil=>intro k0 k m h;cases h
 |cons x xs ih=>
  intro k0 k m h;unfold findK at h;split at h
  ·rename_i m' hm;cases h;obtain⟨j,e,hj⟩:=findM_some _ _ _ _ _ hm;rw[Nat.zero_add]at e;subst e;exact⟨0,x,rfl,rfl,hj⟩
  ·obtain⟨j,y,e,hj,h2⟩:=ih _ _ _ h;exact⟨j+1,y,by omega,by simpa using hj,h2⟩
theorem findK_none (o id:Nat):∀(xs:List QS) (k0:Nat),findK o id xs k0=none→∀x∈xs,∀p∈x.ps,p≠ .op o id:=by
 intro xs;induction xs with
 |nil=>intro k0 h x hx;cases hx
 |cons x xs ih=>
  intro k0 h y hy;unfold findK at h;split at h
  ·cases h
  ·rename_i hm;rcases List.mem_cons.1 hy with e|e
   ·rw[e];exact findM_none _ _ _ _ hm
   ·exact ih _ h y e
theorem findP_some (o id:Nat):∀(cs:List CliQ) (i0 i k m:Nat),findP o id cs i0=some (i,k,m)→∃j s x,i=i0+j∧cs[j]?=some s∧s.qs[k]?=some x∧x.ps[m]?=some (.op o id):=by
 intro cs;induction cs with
 |nil=>intro i0 i k m h;cases h
 |cons s cs ih=>
  intro i0 i k m h;unfold findP at h;split at h
  ·rename_i k' m' hk;cases h;obtain⟨j,x,e,hj,h2⟩:=findK_some _ _ _ _ _ _ hk;rw[Nat.zero_add]at e;subst e;exact⟨0,s,x,rfl,rfl,hj,h2⟩
  ·obtain⟨j,s',x,e,hj,h2⟩:=ih _ _ _ _ h;exact⟨j+1,s',x,by omega,by simpa using hj,h2⟩
theorem findP_none (o id:Nat):∀(cs:List CliQ) (i0:Nat),findP o id cs i0=none→∀s∈cs,∀x∈s.qs,∀p∈x.ps,p≠ .op o id:=by
 intro cs;induction cs with
 |nil=>intro i0 h s hs;cases hs
 |cons s cs ih=>
  intro i0 h y hy;unfold findP at h;split at h
  ·cases h
  ·rename_i hk;rcases List.mem_cons.1 hy with e|e
   ·rw[e];exact findK_none _ _ _ _ hk
   ·exact ih _ h y e
theorem opQ_cut (C q:Nat)(h:ps[m]?=some (.op o id))(i0:Nat):∃P Q,opQ C q i0 ps=P++(o,id,partV C q ((i0+m:Nat):Int))::Q∧∀st v,opQ C q i0 (ps.set m (.an st v))=P++Q:=by
 have hm:=(List.getElem?_eq_some_iff.1 h).1;have hl:(ps.take m).length=m:=by rw[List.length_take];omega
 refine⟨opQ C q i0 (ps.take m),opQ C q (i0+m+1) (ps.drop (m+1)),?_,fun st v=>?_⟩
 ·conv=>lhs;rw[split_at h,opQ_app,hl]
  rfl
 ·rw[set_split h,opQ_app,hl];rfl
theorem opnV_cut (C:Nat){qi:List QI}{xs:List QS}(hl:qi.length=xs.length){k:Nat}{x:QS}(hv:qi[k]?=some vq)(hx:xs[k]?=some x)(h:opQ C vq.q 0 x.ps=P++e::Q):∃P' Q',opnV C qi xs=P'++e::Q'∧∀x':QS,opQ C vq.q 0 x'.ps=P++Q→opnV C qi (xs.set k x')=P'++Q':=by
 have e1:=split_at hv;have e2:=split_at hx;have hll:(qi.take k).length=(xs.take k).length:=by rw[List.length_take,List.length_take,hl]
 have app:∀(y:QS),opnV C (qi.take k++vq::qi.drop (k+1)) (xs.take k++y::xs.drop (k+1))=opnV C (qi.take k) (xs.take k)++(opQ C vq.q 0 y.ps++opnV C (qi.drop (k+1)) (xs.drop (k+1))):=fun y=>by
  unfold opnV;rw[List.zip_append hll,List.flatMap_append];simp
 refine⟨opnV C (qi.take k) (xs.take k)++P,Q++opnV C (qi.drop (k+1)) (xs.drop (k+1)),?_,fun x' hx'=>?_⟩
 ·conv=>lhs;rw[e1,e2]
  rw[app x,h];simp
 ·rw[set_split hx];conv=>lhs;rw[e1]
  rw[app x',hx'];simp
theorem opnJ_cut {cis:List CliV}{cs:List CliQ}(hl:cis.length=cs.length){i:Nat}{v:CliV}{s:CliQ}(hv:cis[i]?=some v)(hs:cs[i]?=some s)(h:opnV v.k.C v.qi s.qs=P++e::Q):∃P' Q',opnJ cis cs=P'++e::Q'∧∀s':CliQ,opnV v.k.C v.qi s'.qs=P++Q→opnJ cis (cs.set i s')=P'++Q':=by
 have e1:=split_at hv;have e2:=split_at hs;have hll:(cis.take i).length=(cs.take i).length:=by rw[List.length_take,List.length_take,hl]
 refine⟨opnJ (cis.take i) (cs.take i)++P,Q++opnJ (cis.drop (i+1)) (cs.drop (i+1)),?_,fun s' hs'=>?_⟩
 ·conv=>lhs;rw[e1,e2]
  rw[opnJ_app _ _ _ _ hll,opnJ_cons,h];simp
 ·rw[set_split hs];conv=>lhs;rw[e1]
  rw[opnJ_app _ _ _ _ hll,opnJ_cons,hs'];simp
theorem MapR.same {os:List (Nat×Nat×Value)}(h:MapR o l os){q:Nat×Value}(hp:p∈l)(hq:q∈l)(e:p.1=q.1):p=q:=by
 obtain⟨i,hi,ei⟩:=List.mem_iff_getElem.1 hp;obtain⟨j,hj,ej⟩:=List.mem_iff_getElem.1 hq;have h1:(l.map (·.1))[i]?=(l.map (·.1))[j]?:=by
  rw[List.getElem?_map,List.getElem?_map,List.getElem?_eq_getElem hi,List.getElem?_eq_getElem hj,ei,ej];simp[e]
 have h2:=(List.getElem?_inj (by simpa using hi) h.nd).1 h1;subst h2;rw[←ei,←ej]
theorem MapR.take {pv:Value}(h:MapR o l (P++(o,id,pv)::Q)){j:Nat}(hj:l[j]?=some p)(hp:p.1=id):MapR o (l.eraseIdx j) (P++Q):=by
 have hpl:=List.mem_of_getElem? hj;have hxl:(id,pv)∈l:=h.mem.2 (by simp);have hpe:p=(id,pv):=h.same hpl hxl hp;subst hpe;have hjl:=(List.getElem?_eq_some_iff.1 hj).1;have e1:l=l.take j++(id,pv)::l.drop (j+1):=split_at hj;have e2:l.eraseIdx j=l.take j++l.drop (j+1):=List.eraseIdx_eq_take_drop_succ l j;have p1:l.Perm ((id,pv)::l.eraseIdx j):=by
  conv=>lhs;rw[e1]
  rw[e2];exact List.perm_middle
 refine⟨?_,?_⟩
 ·have p2:((id,pv)::l.eraseIdx j).Perm ((id,pv)::((P++Q).filter (fun p=>p.1==o)).map (·.2)):=by
   refine p1.symm.trans (h.pm.trans ?_);rw[List.filter_append,List.filter_cons,if_pos (by simp),List.filter_append,List.map_append,List.map_cons,List.map_append];exact List.perm_middle
  exact List.Perm.cons_inv p2
 ·have:(((id,pv)::l.eraseIdx j).map (·.1)).Nodup:=((p1.map (·.1)).nodup_iff).1 h.nd;rw[List.map_cons]at this;exact(List.nodup_cons.1 this).2
theorem MapR.skip {o':Nat}(h:MapR o l (P++(o',p)::Q))(hn:o'≠o):MapR o l (P++Q):=by
 refine⟨?_,h.nd⟩;have:=h.pm;rw[List.filter_append,List.filter_cons,if_neg (by simpa using hn),←List.filter_append]at this;exact this
theorem qd_an (vq:QI)(c:Cmd)(a b:List PS)(o id st:Nat)(v:ByteArray):(QS.n ⟨c,a++ .op o id::b⟩=QS.n ⟨c,a++ .an st v::b⟩+1)∧qdOf vq ⟨c,a++ .an st v::b⟩={qdOf vq ⟨c,a++ .op o id::b⟩with n:=QS.n ⟨c,a++ .an st v::b⟩,re:=QS.re ⟨c,a++ .op o id::b⟩ || decide (st=2)}∧yesC (a++ .an st v::b)=(yesC (a++ .op o id::b)).set! a.length (.bool (decide (st=0)))∧valC (a++ .an st v::b)=(valC (a++ .op o id::b)).set! a.length (.string v):=by
 refine⟨?_,?_,?_,?_⟩
 ·unfold QS.n;simp[List.countP_cons,PS.opn];try omega
 ·unfold qdOf QS.n QS.fa QS.re;simp[PS.opn,PS.bad,PS.ref];cases (a.any PS.ref)<;>cases (b.any PS.ref)<;>simp
 ·unfold yesC;apply Array.ext';simp[PS.yes]
 ·unfold valC;apply Array.ext';simp[PS.val]
theorem set_at {p:PS}(h:ps[m]?=some p):(ps.take m).length=m:=by
 have:=(List.getElem?_eq_some_iff.1 h).1;rw[List.length_take];omega
theorem QuAt.toAn {st:Nat}{v:ByteArray}(h:QuAt W vq ⟨c,ps⟩)(hm:ps[m]?=some (.op o id))(hk:∀b∈vq.kb.toList,W'.heap[b]?=W.heap[b]?)(hq:W'.heap[vq.q]?=some (qdO {qdOf vq ⟨c,ps⟩with n:=QS.n ⟨c,ps.set m (.an st v)⟩,re:=QS.re ⟨c,ps⟩ || decide (st=2)}))(hy:W'.heap[vq.yb]?=some (.cells ((yesC ps).set! m (.bool (decide (st=0)))) 4 (0,0)))(hv:W'.heap[vq.vb]?=some (.cells ((valC ps).set! m (.string v)) 9 (0,0))):QuAt W' vq ⟨c,ps.set m (.an st v)⟩:=by
 have e1:=split_at hm;have e2:=set_split hm (.an st v);have e3:=set_at hm;obtain⟨_,b1,b2,b3⟩:=qd_an vq c (ps.take m) (ps.drop (m+1)) o id st v;rw[←e1,←e2,e3]at b2 b3;rw[←e1,←e2]at b1;refine⟨?_,?_,?_,?_⟩
 ·rw[b1];exact hq
 ·show _=some (Obj.cells (yesC (ps.set m (.an st v))) 4 (0,0));rw[b2];exact hy
 ·show _=some (Obj.cells (valC (ps.set m (.an st v))) 9 (0,0));rw[b3];exact hv
 ·rcases h.keys with e|⟨b',c',Z,f1,f2,f3,f4,hZ,f5⟩
  ·exact .inl e
  ·exact .inr ⟨b',c',Z,f1,f2,f3,f4,(hk b' (by rw[f1];simp)).trans hZ,f5⟩
theorem qn_an (hm:ps[m]?=some (.op o id))(st:Nat)(v:ByteArray):QS.n ⟨c,ps⟩=QS.n ⟨c,ps.set m (.an st v)⟩+1:=by
 have e1:=split_at hm;have e2:=set_split hm (.an st v);obtain⟨b1,_⟩:=qd_an ⟨0,0,0,none,.slice none 0 0⟩ c (ps.take m) (ps.drop (m+1)) o id st v;rw[←e1,←e2]at b1;exact b1
theorem SrvsAt.put {vs:List SrvV}{ss:List SrvQ}(h:SrvsAt W vs ss){v v':SrvV}{s':SrvQ}(hv:vs[o]?=some v)(hc:∀b∈feetS vs,b∉v.foot→W'.heap[b]?=W.heap[b]?)(hn:SrvAt W' v' s')(hl:Later W v.foot v'.foot):SrvsAt W' (vs.set o v') (ss.set o s')∧Later W (feetS vs) (feetS (vs.set o v')):=by
 have hol:=(List.getElem?_eq_some_iff.1 hv).1;refine⟨⟨by simp[h.len],fun j u s hu hs=>?_,fun i j u1 u2 hij h1 h2 b hb1 hb2=>?_⟩,fun b hb=>?_⟩
 ·by_cases hjo:o=j
  ·subst hjo;rw[List.getElem?_set_self hol]at hu;rw[List.getElem?_set_self (by rw[←h.len];exact hol)]at hs;cases hu;cases hs;exact hn
  ·rw[List.getElem?_set_ne hjo]at hu hs;have hok:=h.ok j u s hu hs;exact hok.keep (fun b hb=>hc b (mem_feetS.2 ⟨j,u,hu,hb⟩) (h.ap j o u v (fun e=>hjo e.symm) hu hv b hb))
 ·rw[List.getElem?_set]at h1 h2;have oldb:∀(k:Nat) (u:SrvV),vs[k]?=some u→∀b∈u.foot,b<W.heap.size:=fun k u hu b hb=>h.old b (mem_feetS.2 ⟨k,u,hu,hb⟩)
  split at h1
  ·rename_i e1;subst e1;split at h2
   ·rename_i e2;exact hij e2
   ·simp at h1;subst h1;rcases hl b hb1 with h3|h3
    ·exact h.ap o j v u2 hij hv h2 b h3 hb2
    ·have:=oldb j u2 h2 b hb2;omega
  ·split at h2
   ·rename_i e2;subst e2;simp at h2;subst h2;rcases hl b hb2 with h3|h3
    ·exact h.ap i o u1 v hij h1 hv b hb1 h3
    ·have:=oldb i u1 h1 b hb1;omega
   ·exact h.ap i j u1 u2 hij h1 h2 b hb1 hb2
 ·obtain⟨j,u,hu,hbu⟩:=mem_feetS.1 hb;rw[List.getElem?_set]at hu;split at hu
  ·rename_i e;subst e;simp at hu;subst hu;rcases hl b hbu with h3|h3
   ·exact .inl (mem_feetS.2 ⟨o,v,hv,h3⟩)
   ·exact .inr h3
  ·exact .inl (mem_feetS.2 ⟨j,u,hu,hbu⟩)
structure HO where
 v:Bool⊕(Nat×Nat×Nat×Reply)
abbrev HO.stop (ok:Bool):HO:=⟨.inl ok⟩
abbrev HO.got (i k m:Nat)(r:Reply):HO:=⟨.inr (i,k,m,r)⟩
theorem HO.el {q:HO→Prop}(stop:∀a,q (.stop a))(got:∀a b c d,q (.got a b c d))(p:HO):q p:=match p with|⟨.inl a⟩=>stop a|⟨.inr (a,b,c,d)⟩=>got a b c d
def kindAt (cs:List CliQ)(i k:Nat):Int:=match cs[i]?with
 |none=>0
 |some s=>match s.qs[k]?with
  |none=>0
  |some x=>x.c.kind
def hearO (cs:List CliQ)(s:SrvQ)(o:Nat):HO:=
 match fromR s.held with
 |(none,ok)=> .stop ok
 |(some r,_)=>match findP o r.id cs 0 with
  |none=> .stop false
  |some (i,k,m)=>if mayB (kindAt cs i k) r=true then .got i k m r else .stop false
def anC (s:CliQ)(k m:Nat)(r:Reply):CliQ:=match s.qs[k]?with
 |none=>s
 |some x=>{s with qs:=s.qs.set k ⟨x.c,x.ps.set m (.an r.st r.val)⟩}
def anJ (cs:List CliQ)(i k m:Nat)(r:Reply):List CliQ:=match cs[i]?with
 |none=>cs
 |some s=>cs.set i (anC s k m r)
set_option maxHeartbeats 1000000
variable {i k m o:Nat}{v:CliV}{s:CliQ}{x:QS}{u:SrvV}{su:SrvQ}
section
variable {W:World}{X sv pt win g sc:Nat}{cv:Value}{cis:List CliV}{cs:List CliQ}{vs:List SrvV}{ss:List SrvQ}
theorem JunQ.nX (h:JunQ W X sv pt win g sc cv cis cs vs ss):(∀(i:Nat) (v:CliV),cis[i]?=some v→X∉v.foot∧g∉v.foot)∧X∉feetS vs∧g∉feetS vs:=by
 obtain⟨Zg,h1,h2⟩:=h.gb;refine⟨fun i v hv=>?_,h.srv.apart h.blk (by decide) (by decide),h.srv.apart h1 (by decide) (by decide)⟩;obtain⟨s,_,hc⟩:=h.get hv;exact⟨hc.apart h.blk (by decide),hc.apart h1 (by decide)⟩
theorem JunQ.nRow (h:JunQ W X sv pt win g sc cv cis cs vs ss){gg:Nat}(hg:cv.ownBlock=some gg):gg<W.heap.size∧(∀(i:Nat) (v:CliV),cis[i]?=some v→gg∉v.foot)∧gg∉feetS vs:=by
 obtain⟨cur,hc⟩:=ownsRow_blk h.row hg;refine⟨blkLt hc,fun i v hv=>?_,h.srv.apart hc (by decide) (by decide)⟩;obtain⟨s,_,hok⟩:=h.get hv;exact hok.apart hc (by decide)
theorem civ_old (h:JunQ W X sv pt win g sc cv cis cs vs ss)(hv:cis[i]?=some v):∀b∈v.foot,b<W.heap.size:=fun b hb=>by
 obtain⟨s,hs,hok⟩:=h.get hv
 exact hok.old b hb
theorem JunQ.part (h:JunQ W X sv pt win g sc cv cis cs vs ss){id:Nat}(hs:cs[i]?=some s)(hx:s.qs[k]?=some x)(hm:x.ps[m]?=some (.op o id)):∃v vq,cis[i]?=some v∧v.qi[k]?=some vq∧∃P Q,opnJ cis cs=P++(o,id,partV v.k.C vq.q m)::Q∧∀(st:Nat) (w:ByteArray),opnJ cis (cs.set i {s with qs:=s.qs.set k ⟨x.c,x.ps.set m (.an st w)⟩})=P++Q:=by
 obtain⟨v,hv,hc⟩:=h.getS hs;have hk:k<v.qi.length:=by rw[hc.qu.len];exact(List.getElem?_eq_some_iff.1 hx).1
 obtain⟨vq,hvq⟩:∃vq,v.qi[k]?=some vq:=⟨_,List.getElem?_eq_getElem hk⟩
 refine⟨v,vq,hv,hvq,?_⟩;obtain⟨P1,Q1,a1,a2⟩:=opQ_cut v.k.C vq.q hm 0;rw[Nat.zero_add]at a1;obtain⟨P2,Q2,b1,b2⟩:=opnV_cut v.k.C hc.qu.len hvq hx a1;obtain⟨P3,Q3,c1,c2⟩:=opnJ_cut h.cl hv hs b1;exact⟨P3,Q3,c1,fun st w=>c2 _ (b2 _ (a2 st w))⟩
theorem JunQ.heard {W':World}(h:JunQ W X sv pt win g sc cv cis cs vs ss){u':SrvV}{su':SrvQ}{vq:QI}{r:Reply}{F:List Nat}(hu:vs[o]?=some u)(hsu:ss[o]?=some su)(hv:cis[i]?=some v)(hs:cs[i]?=some s)(hvq:v.qi[k]?=some vq)(hx:s.qs[k]?=some x)(hq:QuAt W' vq ⟨x.c,x.ps.set m (.an r.st r.val)⟩)(hok:QSOk s.d ⟨x.c,x.ps.set m (.an r.st r.val)⟩)(hsv:SrvAt W' u' su')(hS:u'.S=u.S)(hl:Later W u.foot u'.foot)(hc:Chg F W W')(hF:∀b∈F,b∈u.foot∨b∈vq.foot)(hmr:∀(o':Nat) (z:SrvV),(vs.set o u')[o']?=some z→MapR o' z.l (opnJ cis (cs.set i {s with qs:=s.qs.set k ⟨x.c,x.ps.set m (.an r.st r.val)⟩}))):JunQ W' X sv pt win g sc cv cis (cs.set i {s with qs:=s.qs.set k ⟨x.c,x.ps.set m (.an r.st r.val)⟩}) (vs.set o u') (ss.set o su')∧Chg (footQ X cv cis vs) W W'∧Later W (footQ X cv cis vs) (footQ X cv cis (vs.set o u')):=by
 have hil:=(List.getElem?_eq_some_iff.1 hs).1;have hol:=(List.getElem?_eq_some_iff.1 hu).1;obtain⟨nx1,nx2,nx3⟩:=h.nX;have hvf:∀b∈vq.foot,b∈v.foot:=fun b hb=>List.mem_append.2 (.inr (mem_feetQ.2 ⟨vq,List.mem_of_getElem? hvq,hb⟩))
 have huf:∀b∈u.foot,b∈feetS vs:=fun b hb=>mem_feetS.2 ⟨o,u,hu,hb⟩
 have kk:∀b,b<W.heap.size→b∉u.foot→b∉vq.foot→W'.heap[b]?=W.heap[b]?:=fun b hb n1 n2=>hc.block b hb (fun hm=>by
  rcases hF b hm with e|e
  ·exact n1 e
  ·exact n2 e)
 obtain⟨r1,r2⟩:=h.srv.put hu (fun b hb hn=>kk b (h.srv.old b hb) hn (fun e=>h.ap i v hv b (hvf b e) hb)) hsv hl;obtain⟨Zg,g1,g2⟩:=h.gb;have hsub:∀b∈F,b∈footQ X cv cis vs:=fun b hb=>by
  unfold footQ;rcases hF b hb with e|e
  ·exact List.mem_cons_of_mem _ (List.mem_append.2 (.inr (List.mem_append.2 (.inr (huf b e)))))
  ·exact List.mem_cons_of_mem _ (List.mem_append.2 (.inr (List.mem_append.2 (.inl (mem_civ.2 ⟨i,v,hv,hvf b e⟩)))))
 refine⟨⟨(kk X (blkLt h.blk) (fun e=>nx2 (huf X e)) (fun e=>(nx1 i v hv).1 (hvf X e))).trans h.blk,⟨Zg,(kk g (blkLt g1) (fun e=>nx3 (huf g e)) (fun e=>(nx1 i v hv).2 (hvf g e))).trans g1,fun j z hz=>?_⟩,by rw[List.length_set];exact h.len,h.s1,h.s4,h.sc_,h.pt_,h.w6,?_,by rw[List.length_set];exact h.cl,h.c4,fun j z y hz hy=>?_,h.cap,r1,fun j z hz b hb hm'=>?_,hmr,fun y hy=>?_⟩,hc.more hsub,fun b hb=>?_⟩
 ·rw[List.getElem?_set]at hz;split at hz
  ·rename_i e;subst e;simp at hz;subst hz;rw[hS];exact g2 o u hu
  ·exact g2 j z hz
 ·exact ownsRow_other h.row (fun gg hg=>by
   obtain⟨a1,a2,a3⟩:=h.nRow hg;exact kk gg a1 (fun e=>a3 (huf gg e)) (fun e=>a2 i v hv (hvf gg e)))
 ·by_cases hji:i=j
  ·subst hji;rw[hv]at hz;cases hz;rw[List.getElem?_set_self hil]at hy;cases hy;exact(h.cli i v s hv hs).quTo hvq hx (fun b hb hn=>kk b (civ_old h hv b hb) (fun e=>h.ap i v hv b hb (huf b e)) hn) hq rfl hok
  ·rw[List.getElem?_set_ne hji]at hy;exact(h.cli j z y hz hy).keep (fun b hb=>kk b (civ_old h hz b hb) (fun e=>h.ap j z hz b hb (huf b e)) (fun e=>h.cap j i z v (fun e2=>hji e2.symm) hz hv b hb (hvf b e)))
 ·rcases r2 b hm' with h3|h3
  ·exact h.ap j z hz b hb h3
  ·have:=civ_old h hz b hb;omega
 ·rcases List.mem_or_eq_of_mem_set hy with h1|h1
  ·exact h.wl y h1
  ·rw[h1];show(s.qs.set k _).length≤win;rw[List.length_set];exact h.wl s (List.mem_of_getElem? hs)
 ·unfold footQ at hb⊢;rcases List.mem_cons.1 hb with e|hb
  ·exact .inl (by rw[e];simp)
  rcases List.mem_append.1 hb with hb|hb
  ·exact .inl (List.mem_cons_of_mem _ (List.mem_append.2 (.inl hb)))
  rcases List.mem_append.1 hb with hb|hb
  ·exact .inl (List.mem_cons_of_mem _ (List.mem_append.2 (.inr (List.mem_append.2 (.inl hb)))))
  ·rcases r2 b hb with h3|h3
   ·exact .inl (List.mem_cons_of_mem _ (List.mem_append.2 (.inr (List.mem_append.2 (.inr h3)))))
   ·exact .inr h3
end
theorem hear_jun {W:World}{X sv pt win g sc:Nat}{cv:Value}{cis:List CliV}{cs:List CliQ}{vs:List SrvV}{ss:List SrvQ}(h:JunQ W X sv pt win g sc cv cis cs vs ss)(hu:vs[o]?=some u)(hsu:ss[o]?=some su):
 Calls Tryz.prog 94 #[.pointer (some ⟨u.S,0,none⟩)] W fun e w'=>match hearO cs su o with
  |⟨.inl ok⟩=>e= .returned (.tuple #[.pointer none,.bool ok])∧Below W.heap.size W w'
  |⟨.inr (i,k,m,r)⟩=>∃v u',cis[i]?=some v∧7≤r.used∧r.used≤su.held.length∧u'.S=u.S∧e= .returned (.tuple #[.pointer (some ⟨v.k.C,0,none⟩),.bool true])∧JunQ w' X sv pt win g sc cv cis (anJ cs i k m r) (vs.set o u') (ss.set o {su with held:=su.held.drop r.used})∧Chg (footQ X cv cis vs) W w'∧Later W (footQ X cv cis vs) (footQ X cv cis (vs.set o u')):=by
 have hsv:=h.srv.ok o u su hu hsu
 have hMR:=h.mr o u hu
 unfold hearO
 rcases hf:fromR su.held with⟨ro,ok⟩
 cases ro with
 |none=>
  simp only
  refine(hear_none u.S u.hb _ su.held ok W hsv.inb hf).mono ?_;rintro e w' ⟨h1,h2⟩;exact⟨h1,h2⟩
 |some r=>
  obtain⟨hok,hst,hid,hvs,hu7,hul⟩:=fromR_some hf;subst hok;simp only
  cases hp:findP o r.id cs 0 with
  |none=>
   simp only
   have hno:∀p∈u.l,p.1≠r.id:=fun p hpl e=>by
    obtain⟨i,k,m,v,s,vq,x,_,hs,_,hx,_,hm⟩:=opnJ_part (hMR.mem.1 hpl);rw[show(o,p).2.1=r.id from e]at hm;exact findP_none o r.id cs 0 hp s (List.mem_of_getElem? hs) x (List.mem_of_getElem? hx) _ (List.mem_of_getElem? hm) rfl
   refine(hear_unknown u.S u.hb _ su.held r u.l W hsv.inb hf hsv.mp hno).mono ?_;rintro e w' ⟨h1,h2⟩;exact⟨h1,h2⟩
  |some z=>
   obtain⟨i,k,m⟩:=z;simp only
   obtain⟨i',s,x,e1,hs,hx,hm⟩:=findP_some o r.id cs 0 i k m hp;rw[Nat.zero_add]at e1;subst e1;obtain⟨v,vq,hv,hvq,P,Q,hP,hPQ⟩:=h.part hs hx hm;have hkind:kindAt cs i k=x.c.kind:=by unfold kindAt;rw[hs];simp only;rw[hx]
   have hcli:=h.cli i v s hv hs;have hQ:=hcli.qu.qu k vq x hvq hx;have hxk:=hcli.ok x (List.mem_of_getElem? hx);have hml:=(List.getElem?_eq_some_iff.1 hm).1;have hlen:=hxk.len;have hk4:=hxk.w.cm.k4;have hin:(r.id,partV v.k.C vq.q (m:Int))∈u.l:=hMR.mem.2 (by rw[hP];simp);have hex:∃p∈u.l,p.1=r.id:=⟨_,hin,rfl⟩
   have hall:∀p∈u.l,p.1=r.id→p.2=partV v.k.C vq.q (m:Int):=fun p hpl e=>by rw[hMR.same hpl hin e]
   have hqb:=hQ.blk;unfold qdO at hqb;rw[hkind];by_cases hmay:mayB x.c.kind r=true
   ·rw[if_pos hmay];simp only
    have hn1:=qn_an (c:=x.c) hm r.st r.val;have hn2:QS.n ⟨x.c,x.ps.set m (.an r.st r.val)⟩≤1000:=by
     have:QS.n ⟨x.c,x.ps.set m (.an r.st r.val)⟩≤(x.ps.set m (.an r.st r.val)).length:=List.countP_le_length;rw[List.length_set]at this;omega
    have hqb2:=hqb;rw[show(qdOf vq x).n=QS.n ⟨x.c,x.ps.set m (.an r.st r.val)⟩+1 from hn1]at hqb2;refine(hear_yes u.S v.k.C vq.q vq.yb vq.vb m x.ps.length u.hb _ su.held r u.l x.c.kind vq.kv x.c.val x.c.word x.c.fatal x.c.id (QS.n ⟨x.c,x.ps.set m (.an r.st r.val)⟩) x.fa x.re (yesC x.ps) (valC x.ps) W hsv.inb hf hsv.mp hex hall hqb2 hQ.yes hQ.val (by unfold yesC;simp) (by unfold valC;simp) hml (by omega) hn2 hmay).mono ?_;rintro e w' ⟨rfl,hb',j,p,a1,a2,a3,a4,a5,a6,a7,a8,a9⟩;have hbl:∀b,u.bv.ownBlock=some b→b<W.heap.size:=fun b hb=>hsv.old b (by simp[SrvV.foot,hb])
    obtain⟨n1,n2,n3,n4,n5⟩:=hsv.nS;have hvf:∀b∈vq.foot,b∉u.foot:=fun b hb hm'=>h.ap i v hv b (List.mem_append.2 (.inr (mem_feetQ.2 ⟨vq,List.mem_of_getElem? hvq,hb⟩))) (mem_feetS.2 ⟨o,u,hu,hm'⟩)
    have hbvk:∀b,u.bv.ownBlock=some b→w'.heap[b]?=W.heap[b]?:=fun b hb=>a9.block b (hbl b hb) (fun hm'=>by
     have hbu:b∈u.foot:=by simp[SrvV.foot,hb]
     simp at hm';rcases hm' with e|e|e|e|e|e
     ·exact n3 (by rw[hb,e])
     ·exact n5 (by rw[hb,e])
     ·exact hvf b (by rw[e];simp[QI.foot]) hbu
     ·exact hvf b (by rw[e];simp[QI.foot]) hbu
     ·exact hvf b (by rw[e];simp[QI.foot]) hbu
     ·exact hsv.ab b hb e)
    have hnew:SrvAt w' {u with hb:=hb',l:=u.l.eraseIdx j} {su with held:=su.held.drop r.used}:=by
     refine⟨a1,a5,hsv.bpv,hsv.row.other hbvk,hsv.nx,fun b hb hb2=>?_⟩;simp only at hb hb2;rcases a2 with e|e|⟨z,e,hz⟩
     ·exact hsv.ab b hb (by rw[←e];exact hb2)
     ·rw[e]at hb2;cases hb2
     ·rw[e]at hb2;cases hb2;have:=hbl _ hb;omega
    have hlu:Later W u.foot (SrvV.foot {u with hb:=hb',l:=u.l.eraseIdx j}):=fun b hb=>by
     unfold SrvV.foot at hb⊢;simp at hb⊢;rcases hb with e|e|e|e
     ·simp[e]
     ·simp[e]
     ·rcases a2 with e2|e2|⟨z,e2,hz⟩
      ·rw[e2]at e;simp[e]
      ·rw[e2]at e;cases e
      ·rw[e2]at e;cases e;exact .inr hz
     ·simp[e]
    have hkbk:∀b∈vq.kb.toList,w'.heap[b]?=W.heap[b]?:=fun b hb=>a9.block b (hQ.old b (by simp[QI.foot];right;right;right;exact optMem hb)) (fun hm'=>by
     have hbf:b∈vq.foot:=by simp[QI.foot];right;right;right;exact optMem hb
     have hnd:=hQ.nd;unfold QI.foot at hnd;have hbk:=optMem hb;rw[hbk]at hnd;simp at hnd;simp at hm';rcases hm' with e|e|e|e|e|e
     ·exact hvf b hbf (by rw[e];simp[SrvV.foot])
     ·exact hvf b hbf (by rw[e];simp[SrvV.foot])
     ·exact hnd.1.2.2 e.symm
     ·exact hnd.2.1.2 e.symm
     ·exact hnd.2.2 e.symm
     ·exact hvf b hbf (by simp[SrvV.foot,e]))
    have hqa:QuAt w' vq ⟨x.c,x.ps.set m (.an r.st r.val)⟩:=by
     refine hQ.toAn hm hkbk ?_ a7 a8;exact a6
    have hpsok:PSOk x.c.kind (.an r.st r.val):=by
     refine⟨by omega,hvs,?_⟩;unfold mayB at hmay;rw[Bool.or_eq_true,Bool.and_eq_true,decide_eq_true_eq,decide_eq_true_eq]at hmay;rcases hmay with⟨e1,e2⟩|e1
     ·exact .inr ⟨e1,e2⟩
     ·left;have:=emptyB' e1;rw[this];rfl
    have hqok:QSOk s.d ⟨x.c,x.ps.set m (.an r.st r.val)⟩:=⟨hxk.w,by show(x.ps.set m _).length=_;rw[List.length_set];exact hlen,fun y hy=>by
     rcases List.mem_or_eq_of_mem_set hy with h1|h1
     ·exact hxk.ps y h1
     ·rw[h1];exact hpsok⟩
    have hanJ:anJ cs i k m r=cs.set i {s with qs:=s.qs.set k ⟨x.c,x.ps.set m (.an r.st r.val)⟩}:=by
     unfold anJ anC;rw[hs];simp only
     rw[hx]
    rw[hanJ];have hfin:=h.heard (u':={u with hb:=hb',l:=u.l.eraseIdx j}) (su':={su with held:=su.held.drop r.used}) hu hsu hv hs hvq hx hqa hqok hnew rfl hlu a9 (fun b hb=>by
     simp at hb;rcases hb with e|e|e|e|e|e
     ·exact .inl (by rw[e];simp[SrvV.foot])
     ·exact .inl (by rw[e];simp[SrvV.foot])
     ·exact .inr (by rw[e];simp[QI.foot])
     ·exact .inr (by rw[e];simp[QI.foot])
     ·exact .inr (by rw[e];simp[QI.foot])
     ·exact .inl (by simp[SrvV.foot,e])) (fun o' z hz=>by
     rw[hPQ];rw[List.getElem?_set]at hz;split at hz
     ·rename_i e;subst e;split at hz
      ·cases hz;rw[hP]at hMR;exact hMR.take a3 a4
      ·cases hz
     ·rename_i e;have:=h.mr o' z hz;rw[hP]at this;exact this.skip e)
    exact⟨v,{u with hb:=hb',l:=u.l.eraseIdx j},hv,hu7,hul,rfl,rfl,hfin⟩
   ·rw[if_neg hmay];simp only
    have hmay':mayB x.c.kind r=false:=by simpa using hmay
    refine(hear_not u.S v.k.C vq.q m u.hb _ su.held r u.l x.c.kind _ _ _ _ _ _ _ _ _ _ W hsv.inb hf hsv.mp hex hall hqb hmay').mono ?_;rintro e w' ⟨h1,h2⟩;exact⟨h1,h2⟩
variable {o k q i:Nat}{l:List (Nat×Value)}{os:List (Nat×Nat×Value)}{x:QS}{v:CliV}{vq:QI}{s:CliQ}{cis:List CliV}{cs:List CliQ}
def failP (o:Nat):PS→PS
 |⟨.inl (some (a,id))⟩=>if a=o then .fl else .op a id
 |p=>p
def failQ (o:Nat)(x:QS):QS:=⟨x.c,x.ps.map (failP o)⟩
def failC (o:Nat)(s:CliQ):CliQ:={s with qs:=s.qs.map (failQ o)}
def ofO (o:Nat):PS→Bool
 |⟨.inl (some (a,_))⟩=>a==o
 |_=>false
def cntO (o:Nat)(ps:List PS):Nat:=ps.countP (ofO o)
theorem fail_n (o:Nat):∀ps:List PS,(ps.map (failP o)).countP PS.opn+cntO o ps=ps.countP PS.opn:=by
 intro ps;induction ps with
 |nil=>rfl
 |cons p ps ih=>
  unfold cntO at ih⊢;rw[List.map_cons,List.countP_cons,List.countP_cons,List.countP_cons];have key:(if PS.opn (failP o p)=true then 1 else 0)+(if ofO o p=true then 1 else 0)=(if PS.opn p=true then 1 else 0:Nat):=by
   cases p using PS.el with
   |op a id=>by_cases h:a=o<;>simp[failP,h,ofO,PS.opn]
   |_=>rfl
  omega
theorem fail_fa (o:Nat):∀ps:List PS,(ps.map (failP o)).any PS.bad=(ps.any PS.bad || decide (0<cntO o ps)):=by
 intro ps;induction ps with
 |nil=>rfl
 |cons p ps ih=>
  unfold cntO at ih⊢;rw[List.map_cons,List.any_cons,List.any_cons,ih,List.countP_cons];cases p using PS.el with
  |op a id=>
   by_cases h:a=o
   ·simp[failP,h,ofO,PS.bad]
   ·simp[failP,h,ofO,PS.bad]
  |un=>simp[failP,ofO,PS.bad]
  |an st v=>simp[failP,ofO,PS.bad]
  |fl=>simp[failP,ofO,PS.bad]
theorem fail_re (o:Nat)(ps:List PS):(ps.map (failP o)).any PS.ref=ps.any PS.ref:=by
 induction ps with
 |nil=>rfl
 |cons p ps ih=>
  rw[List.map_cons,List.any_cons,List.any_cons,ih];congr 1;cases p using PS.el with
  |op a id=>by_cases h:a=o<;>simp[failP,h,PS.ref]
  |_=>rfl
theorem fail_yes (o:Nat)(ps:List PS):(ps.map (failP o)).map PS.yes=ps.map PS.yes:=by
 rw[List.map_map];apply List.map_congr_left;intro p _;cases p using PS.el with
 |op a id=>by_cases h:a=o<;>simp[failP,h,PS.yes]
 |_=>rfl
theorem fail_val (o:Nat)(ps:List PS):(ps.map (failP o)).map PS.val=ps.map PS.val:=by
 rw[List.map_map];apply List.map_congr_left;intro p _;cases p using PS.el with
 |op a id=>by_cases h:a=o<;>simp[failP,h,PS.val]
 |_=>rfl
theorem fail_qd (o:Nat)(vq:QI)(x:QS):qdOf vq (failQ o x)=failN (qdOf vq x) (cntO o x.ps)∧yesC (failQ o x).ps=yesC x.ps∧valC (failQ o x).ps=valC x.ps:=by
 have h1:=fail_n o x.ps;have h2:=fail_fa o x.ps;have h3:=fail_re o x.ps;have h4:((failQ o x).ps.map (fun p=>Value.bool p.yes))=x.ps.map (fun p=>Value.bool p.yes):=by
  have:=congrArg (List.map Value.bool) (fail_yes o x.ps);simpa [List.map_map,Function.comp_def,failQ]using this
 have h5:((failQ o x).ps.map (fun p=>Value.string p.val))=x.ps.map (fun p=>Value.string p.val):=by
  have:=congrArg (List.map Value.string) (fail_val o x.ps);simpa [List.map_map,Function.comp_def,failQ]using this
 refine⟨?_,?_,?_⟩
 ·unfold qdOf failN QS.n QS.fa QS.re failQ;simp only[List.length_map,h2,h3]
  congr 1;omega
 ·unfold yesC;rw[h4]
 ·unfold valC;rw[h5]
theorem fail_opQ (o C q:Nat):∀(ps:List PS) (i:Nat),opQ C q i (ps.map (failP o))=(opQ C q i ps).filter (fun p=>p.1 != o):=by
 intro ps;induction ps with
 |nil=>intro i;rfl
 |cons p ps ih=>
  intro i;rw[List.map_cons];cases p using PS.el with
  |op a id=>
   by_cases h:a=o
   ·simp[failP,h,opQ,ih]
   ·simp[failP,h,opQ,ih]
  |un=>simpa [failP,opQ]using ih (i+1)
  |an st v=>simpa [failP,opQ]using ih (i+1)
  |fl=>simpa [failP,opQ]using ih (i+1)
theorem fail_opnV (o C:Nat):∀(qi:List QI) (xs:List QS),opnV C qi (xs.map (failQ o))=(opnV C qi xs).filter (fun p=>p.1 != o):=by
 intro qi;induction qi with
 |nil=>intro xs;unfold opnV;simp
 |cons v qi ih=>
  intro xs;cases xs with
  |nil=>unfold opnV;simp
  |cons x xs=>
   rw[List.map_cons,opnV_cons,opnV_cons,List.filter_append,ih xs];congr 1;exact fail_opQ o C v.q x.ps 0
theorem fail_opnJ (o:Nat):∀(cis:List CliV) (cs:List CliQ),opnJ cis (cs.map (failC o))=(opnJ cis cs).filter (fun p=>p.1 != o):=by
 intro cis;induction cis with
 |nil=>intro cs;unfold opnJ;simp
 |cons v cis ih=>
  intro cs;cases cs with
  |nil=>unfold opnJ;simp
  |cons s cs=>
   rw[List.map_cons,opnJ_cons,opnJ_cons,List.filter_append,ih cs];congr 1;exact fail_opnV o v.k.C v.qi s.qs
theorem MapR.fell {o':Nat}(h:MapR o l os)(hn:o'≠o):MapR o l (os.filter (fun p=>p.1 != o')):=by
 refine⟨?_,h.nd⟩;rw[List.filter_filter];have e:os.filter (fun p=>(p.1==o)&&(p.1 != o'))=os.filter (fun p=>p.1==o):=by
  apply List.filter_congr;intro p _;by_cases hp:p.1=o
  ·simp[hp];exact fun e=>hn e.symm
  ·simp[hp]
 rw[e];exact h.pm
theorem MapR.none (o:Nat)(os:List (Nat×Nat×Value)):MapR o [] (os.filter (fun p=>p.1 != o)):=by
 refine⟨?_,by simp⟩;rw[List.filter_filter];have e:os.filter (fun p=>(p.1==o)&&(p.1 != o))=[]:=by
  apply List.filter_eq_nil_iff.2;intro p _;by_cases hp:p.1=o<;>simp[hp]
 rw[e];simp
theorem PSOk.fail {k:Int}{p:PS}(h:PSOk k p)(o:Nat):PSOk k (failP o p):=by
 cases p using PS.el with
 |op a id=>
  by_cases e:a=o
  ·simp[failP,e,PSOk]
  ·simp[failP,e,PSOk]
 |_=>exact h
theorem QSOk.fail {d:Int}(h:QSOk d x)(o:Nat):QSOk d (failQ o x):=
 ⟨h.w,by show(x.ps.map _).length=_;rw[List.length_map];exact h.len,fun p hp=>by
  obtain⟨q,hq,rfl⟩:=List.mem_map.1 hp;exact(h.ps q hq).fail o⟩
def cntQ (o q:Nat)(l:List (Nat×Nat×Value)):Nat:=l.countP (fun p=>p.1==o&&qOf p.2.2==q)
theorem cntQ_none {l:List (Nat×Nat×Value)}(h:∀p∈l,qOf p.2.2≠q):cntQ o q l=0:=by
 unfold cntQ;rw[List.countP_eq_zero];intro p hp;simp;intro _;exact h p hp
theorem cntQ_app (o q:Nat)(a b:List (Nat×Nat×Value)):cntQ o q (a++b)=cntQ o q a+cntQ o q b:=List.countP_append
theorem cntQ_opQ (o C q:Nat):∀(ps:List PS) (i:Nat),cntQ o q (opQ C q i ps)=cntO o ps:=by
 intro ps;induction ps with
 |nil=>intro i;rfl
 |cons p ps ih=>
  intro i;unfold cntO;rw[List.countP_cons];cases p using PS.el with
  |op a id=>
   have h:=ih (i+1);unfold cntQ cntO at h;show cntQ o q ((a,id,partV C q i)::opQ C q (i+1) ps)=_;unfold cntQ;rw[List.countP_cons,h];simp[qOf_part,ofO]
  |un=>simpa [opQ,ofO,cntO]using ih (i+1)
  |an st v=>simpa [opQ,ofO,cntO]using ih (i+1)
  |fl=>simpa [opQ,ofO,cntO]using ih (i+1)
theorem MapR.cnt (h:MapR o l os)(q:Nat):l.countP (fun p=>qOf p.2==q)=cntQ o q os:=by
 rw[h.pm.countP_eq,List.countP_map,List.countP_filter];unfold cntQ;congr 1;funext p;simp[Bool.and_comm]
section
variable {W:World}{X sv pt win g sc:Nat}{cv:Value}{cis:List CliV}{cs:List CliQ}{vs:List SrvV}{ss:List SrvQ}
theorem JunQ.one (h:JunQ W X sv pt win g sc cv cis cs vs ss){i' k':Nat}{v':CliV}{vq':QI}(hv:cis[i]?=some v)(hq:v.qi[k]?=some vq)(hv':cis[i']?=some v')(hq':v'.qi[k']?=some vq')(e:vq.q=vq'.q):i=i'∧k=k':=by
 have m1:vq.q∈v.foot:=List.mem_append.2 (.inr (mem_feetQ.2 ⟨vq,List.mem_of_getElem? hq,by simp[QI.foot]⟩));have m2:vq.q∈v'.foot:=List.mem_append.2 (.inr (mem_feetQ.2 ⟨vq',List.mem_of_getElem? hq',by simp[QI.foot,e]⟩));have hi:i=i':=Classical.byContradiction fun hn=>h.cap i i' v v' hn hv hv' _ m1 m2
 subst hi;rw[hv]at hv';cases hv';refine⟨rfl,Classical.byContradiction fun hn=>?_⟩;obtain⟨s,hs,hc⟩:=h.get hv;exact hc.qu.ap k k' vq vq' hn hq hq' vq.q (by simp[QI.foot]) (by simp[QI.foot,e])
theorem JunQ.count (h:JunQ W X sv pt win g sc cv cis cs vs ss)(hv:cis[i]?=some v)(hs:cs[i]?=some s)(hq:v.qi[k]?=some vq)(hx:s.qs[k]?=some x)(o:Nat):cntQ o vq.q (opnJ cis cs)=cntO o x.ps:=by
 have hp:=opnJ_at h.cl hv hs;have e1:cntQ o vq.q (opnJ cis cs)=cntQ o vq.q (exJ cis cs i++opnV v.k.C v.qi s.qs):=hp.countP_eq _;rw[e1,cntQ_app];have hl:=(h.cli i v s hv hs).qu.len;have z1:cntQ o vq.q (exJ cis cs i)=0:=by
  refine cntQ_none fun p hpm e=>?_
  unfold exJ at hpm;rcases List.mem_append.1 hpm with hm|hm
  ·obtain⟨i',k',m,v',s',vq',x',a1,a2,a3,a4,a5,a6⟩:=opnJ_part hm;rw[List.getElem?_take]at a1;split at a1
   ·rw[a5,qOf_part]at e;have:=(h.one a1 a3 hv hq e).1;omega
   ·cases a1
  ·obtain⟨i',k',m,v',s',vq',x',a1,a2,a3,a4,a5,a6⟩:=opnJ_part hm;rw[List.getElem?_drop]at a1;rw[a5,qOf_part]at e;have:=(h.one a1 a3 hv hq e).1;omega
 rw[z1,Nat.zero_add];have e3:=split_at hq;have e4:=split_at hx;have hll:(v.qi.take k).length=(s.qs.take k).length:=by rw[List.length_take,List.length_take,hl]
 have e5:opnV v.k.C v.qi s.qs=opnV v.k.C (v.qi.take k) (s.qs.take k)++(opQ v.k.C vq.q 0 x.ps++opnV v.k.C (v.qi.drop (k+1)) (s.qs.drop (k+1))):=by
  conv=>lhs;rw[e3,e4]
  unfold opnV;rw[List.zip_append hll,List.flatMap_append];simp
 have part:∀(A:List QI) (B:List QS) (p:Nat×Nat×Value),p∈opnV v.k.C A B→∃(k':Nat) (vq':QI),A[k']?=some vq'∧qOf p.2.2=vq'.q:=fun A B p hp=>by
  unfold opnV at hp;obtain⟨y,hy,h3⟩:=List.mem_flatMap.1 hp;obtain⟨k',hk⟩:=List.mem_iff_getElem?.1 hy;rw[List.getElem?_zip_eq_some]at hk;obtain⟨m,_,h4,h5⟩:=opQ_part _ _ _ _ _ h3;exact⟨k',y.1,hk.1,by rw[h4,qOf_part]⟩
 rw[e5,cntQ_app,cntQ_app,cntQ_opQ];have z2:cntQ o vq.q (opnV v.k.C (v.qi.take k) (s.qs.take k))=0:=by
  refine cntQ_none fun p hpm e=>?_
  obtain⟨k',vq',a1,a2⟩:=part _ _ _ hpm;rw[List.getElem?_take]at a1;split at a1
  ·rw[a2]at e;have:=(h.one hv a1 hv hq e).2;omega
  ·cases a1
 have z3:cntQ o vq.q (opnV v.k.C (v.qi.drop (k+1)) (s.qs.drop (k+1)))=0:=by
  refine cntQ_none fun p hpm e=>?_
  obtain⟨k',vq',a1,a2⟩:=part _ _ _ hpm;rw[List.getElem?_drop]at a1;rw[a2]at e;have:=(h.one hv a1 hv hq e).2;omega
 omega
def qdL (cis:List CliV)(cs:List CliQ):List (Nat×QD):=(cis.zip cs).flatMap (fun p=>(p.1.qi.zip p.2.qs).map (fun q=>(q.1.q,qdOf q.1 q.2)))
theorem mem_qdL {z:Nat×QD}:z∈qdL cis cs↔∃(i k:Nat) (v:CliV) (s:CliQ) (vq:QI) (x:QS),cis[i]?=some v∧cs[i]?=some s∧v.qi[k]?=some vq∧s.qs[k]?=some x∧z=(vq.q,qdOf vq x):=by
 unfold qdL;rw[List.mem_flatMap];constructor
 ·rintro ⟨y,hy,hz⟩;obtain⟨i,hi⟩:=List.mem_iff_getElem?.1 hy;rw[List.getElem?_zip_eq_some]at hi;obtain⟨q,hq,rfl⟩:=List.mem_map.1 hz;obtain⟨k,hk⟩:=List.mem_iff_getElem?.1 hq;rw[List.getElem?_zip_eq_some]at hk;exact⟨i,k,y.1,y.2,q.1,q.2,hi.1,hi.2,hk.1,hk.2,rfl⟩
 ·rintro ⟨i,k,v,s,vq,x,h1,h2,h3,h4,rfl⟩;refine⟨(v,s),List.mem_iff_getElem?.2 ⟨i,List.getElem?_zip_eq_some.2 ⟨h1,h2⟩⟩,List.mem_map.2 ⟨(vq,x),List.mem_iff_getElem?.2 ⟨k,List.getElem?_zip_eq_some.2 ⟨h3,h4⟩⟩,rfl⟩⟩
def qdF (cis:List CliV)(cs:List CliQ)(q:Nat):Option QD:=((qdL cis cs).find? (fun p=>p.1==q)).map (·.2)
theorem qdF_some {d:QD}(h:qdF cis cs q=some d):∃(i k:Nat) (v:CliV) (s:CliQ) (vq:QI) (x:QS),cis[i]?=some v∧cs[i]?=some s∧v.qi[k]?=some vq∧s.qs[k]?=some x∧q=vq.q∧d=qdOf vq x:=by
 unfold qdF at h;obtain⟨z,hz,e⟩:=Option.map_eq_some_iff.1 h;have h1:=List.find?_some hz;have h2:=List.mem_of_find?_eq_some hz;obtain⟨i,k,v,s,vq,x,a1,a2,a3,a4,a5⟩:=mem_qdL.1 h2;refine⟨i,k,v,s,vq,x,a1,a2,a3,a4,?_,?_⟩
 ·have:z.1=q:=by simpa using h1
  rw[←this,a5]
 ·rw[←e,a5]
theorem JunQ.qdAt (h:JunQ W X sv pt win g sc cv cis cs vs ss)(hv:cis[i]?=some v)(hs:cs[i]?=some s)(hq:v.qi[k]?=some vq)(hx:s.qs[k]?=some x):qdF cis cs vq.q=some (qdOf vq x):=by
 cases hf:qdF cis cs vq.q with
 |none=>
  exfalso;unfold qdF at hf;rw[Option.map_eq_none_iff,List.find?_eq_none]at hf;have:=hf (vq.q,qdOf vq x) (mem_qdL.2 ⟨i,k,v,s,vq,x,hv,hs,hq,hx,rfl⟩);simp at this
 |some d=>
  obtain⟨i',k',v',s',vq',x',a1,a2,a3,a4,a5,a6⟩:=qdF_some hf;obtain⟨rfl,rfl⟩:=h.one hv hq a1 a3 a5;rw[hv]at a1;cases a1;rw[hs]at a2;cases a2;rw[hq]at a3;cases a3;rw[hx]at a4;cases a4;rw[a6]
end
set_option maxHeartbeats 2000000
set_option maxRecDepth 100000
variable {X sv pt win g sc o T:Nat}{cv:Value}{cis:List CliV}{cs:List CliQ}{vs:List SrvV}{ss:List SrvQ}{u:SrvV}{su:SrvQ}
def fellS (o:Nat)(ss:List SrvQ):List SrvQ:=match ss[o]?with
 |none=>ss
 |some s=>ss.set o {s with up:=false,held:=[]}
theorem sfall_jun {W:World}(h:JunQ W X sv pt win g sc cv cis cs vs ss)(hu:vs[o]?=some u)(hsu:ss[o]?=some su):Calls Tryz.prog 95 #[.pointer (some ⟨u.S,0,none⟩)] W fun e w'=>e= .returned (.tuple #[])∧JunQ w' X sv pt win g sc cv cis (cs.map (failC o)) (vs.set o {u with hb:=none,l:=[]}) (fellS o ss)∧Chg (footQ X cv cis vs) W w'∧Later W (footQ X cv cis vs) (footQ X cv cis (vs.set o {u with hb:=none,l:=[]})):=by
 have hsv:=h.srv.ok o u su hu hsu;have hMR:=h.mr o u hu;have hol:=(List.getElem?_eq_some_iff.1 hu).1;have hqs:∀q d,qdF cis cs q=some d→W.heap[q]?=some (qdO d):=fun q d hd=>by
  obtain⟨i,k,v,s,vq,x,a1,a2,a3,a4,rfl,rfl⟩:=qdF_some hd;exact((h.cli i v s a1 a2).qu.qu k vq x a3 a4).blk
 have hall:∀p∈u.l,∃C q i d,p.2=partV C q i∧qdF cis cs q=some d:=fun p hp=>by
  obtain⟨i,k,m,v,s,vq,x,a1,a2,a3,a4,a5,_⟩:=opnJ_part (hMR.mem.1 hp);exact⟨_,_,_,_,a5,h.qdAt a1 a2 a3 a4⟩
 have hcnt:∀q d,qdF cis cs q=some d→u.l.countP (fun p=>qOf p.2==q)≤d.n∧d.n≤1000:=fun q d hd=>by
  obtain⟨i,k,v,s,vq,x,a1,a2,a3,a4,rfl,rfl⟩:=qdF_some hd;rw[hMR.cnt,h.count a1 a2 a3 a4 o];have hx:=(h.cli i v s a1 a2).ok x (List.mem_of_getElem? a4);have h1:=fail_n o x.ps;have h2:x.ps.countP PS.opn≤x.ps.length:=List.countP_le_length;have h3:=hx.len;have h4:=hx.w.cm.k4;show cntO o x.ps≤x.ps.countP PS.opn∧x.ps.countP PS.opn≤1000;omega
 refine(sfall_any u.S u.hb _ su.held u.l (qdF cis cs) W hsv.inb hsv.mp hqs hall hcnt).mono ?_;rintro e w' ⟨rfl,a1,a2,a3,a4,a5,a6,a7,a8⟩;have huf:∀b∈u.foot,b∈feetS vs:=fun b hb=>mem_feetS.2 ⟨o,u,hu,hb⟩
 have hS:u.S∈u.foot:=by simp[SrvV.foot]
 have hm:u.m∈u.foot:=by simp[SrvV.foot]
 have kt:∀b:Nat,b<W.heap.size→b≠u.S→b≠u.m→(∀(Z:Array Value) f,W.heap[b]?≠some (.cells Z 216 f))→w'.heap[b]?=W.heap[b]?:=fun b hb n1 n2 n3=>a8 b hb n1 n2 (by
  cases hd:qdF cis cs b with
  |none=>rfl
  |some d=>exact absurd (hqs b d hd) (n3 _ _))
 have chg:Chg (footQ X cv cis vs) W w':=⟨a4,a5,a6,a7,fun b hb hn=>by
  refine a8 b hb (fun e=>hn ?_) (fun e=>hn ?_) ?_
  ·rw[e];unfold footQ;exact List.mem_cons_of_mem _ (List.mem_append.2 (.inr (List.mem_append.2 (.inr (huf _ hS)))))
  ·rw[e];unfold footQ;exact List.mem_cons_of_mem _ (List.mem_append.2 (.inr (List.mem_append.2 (.inr (huf _ hm)))))
  ·cases hd:qdF cis cs b with
   |none=>rfl
   |some d=>
    exfalso;obtain⟨i,k,v,s,vq,x,b1,b2,b3,b4,rfl,rfl⟩:=qdF_some hd;refine hn ?_;unfold footQ;exact List.mem_cons_of_mem _ (List.mem_append.2 (.inr (List.mem_append.2 (.inl (mem_civ.2 ⟨i,v,b1,List.mem_append.2 (.inr (mem_feetQ.2 ⟨vq,List.mem_of_getElem? b3,by simp[QI.foot]⟩))⟩)))))⟩
 have ty:∀{b T:Nat} {Z:Array Value} {f:Nat×Nat},W.heap[b]?=some (.cells Z T f)→T≠216→∀(Z':Array Value) f',W.heap[b]?≠some (.cells Z' 216 f'):=fun hb hT Z' f' e=>by
  rw[hb]at e;simp at e;exact hT e.2.1
 have sne:∀b∈feetS vs,b∉u.foot→b≠u.S∧b≠u.m:=fun b _ hn=>⟨fun e=>hn (by rw[e];exact hS),fun e=>hn (by rw[e];exact hm)⟩
 have sty:∀b∈feetS vs,∀(Z:Array Value) f,W.heap[b]?≠some (.cells Z 216 f):=fun b hb Z f e=>h.srv.apart e (by decide) (by decide) hb
 obtain⟨n1,n2,n3,n4,n5⟩:=hsv.nS;have hnew:SrvAt w' {u with hb:=none,l:=[]} {su with up:=false,held:=[]}:=by
  refine⟨?_,a2,hsv.bpv,hsv.row.other (fun b hb=>?_),hsv.nx,fun b hb=>by simp⟩
  ·exact a1
  ·have hbf:b∈u.foot:=by simp[SrvV.foot,hb]
   exact kt b (hsv.old b hbf) (fun e=>n3 (by rw[hb,e])) (fun e=>n5 (by rw[hb,e])) (sty b (huf b hbf))
 have hlu:Later W u.foot (SrvV.foot {u with hb:=none,l:=[]}):=fun b hb=>by
  unfold SrvV.foot at hb⊢;simp at hb⊢;rcases hb with e|e|e<;>simp[e]
 obtain⟨r1,r2⟩:=h.srv.put hu (fun b hb hn=>kt b (h.srv.old b hb) (sne b hb hn).1 (sne b hb hn).2 (sty b hb)) hnew hlu;have hfs:fellS o ss=ss.set o {su with up:=false,held:=[]}:=by unfold fellS;rw[hsu]
 obtain⟨nx1,nx2,nx3⟩:=h.nX;obtain⟨Zg,g1,g2⟩:=h.gb;have hX:=h.blk;unfold juO at hX;refine⟨rfl,⟨(kt X (blkLt h.blk) (fun e=>nx2 (by rw[e];exact huf _ hS)) (fun e=>nx2 (by rw[e];exact huf _ hm)) (ty hX (by decide))).trans h.blk,⟨Zg,(kt g (blkLt g1) (fun e=>nx3 (by rw[e];exact huf _ hS)) (fun e=>nx3 (by rw[e];exact huf _ hm)) (ty g1 (by decide))).trans g1,fun j z hz=>?_⟩,by rw[List.length_set];exact h.len,h.s1,h.s4,h.sc_,h.pt_,h.w6,?_,by rw[List.length_map];exact h.cl,h.c4,fun i v s' hv hs'=>?_,h.cap,?_,fun j z hz b hb hm'=>?_,fun o' z hz=>?_,fun s' hs'=>?_⟩,chg,fun b hb=>?_⟩
 ·rw[List.getElem?_set]at hz;split at hz
  ·rename_i e;subst e;simp at hz;subst hz;exact g2 o u hu
  ·exact g2 j z hz
 ·exact ownsRow_other h.row (fun gg hg=>by
   obtain⟨b1,b2,b3⟩:=h.nRow hg;obtain⟨cur,hc⟩:=ownsRow_blk h.row hg;exact kt gg b1 (fun e=>b3 (by rw[e];exact huf _ hS)) (fun e=>b3 (by rw[e];exact huf _ hm)) (ty hc (by decide)))
 ·rw[List.getElem?_map]at hs';obtain⟨s,hs,rfl⟩:=Option.map_eq_some_iff.1 hs';have hc:=h.cli i v s hv hs;have ne:∀b∈v.foot,b≠u.S∧b≠u.m:=fun b hb=>⟨fun e=>h.ap i v hv b hb (by rw[e];exact huf _ hS),fun e=>h.ap i v hv b hb (by rw[e];exact huf _ hm)⟩
  have hmap:(s.qs.map (failQ o)).map (·.c)=s.qs.map (·.c):=by rw[List.map_map];rfl
  refine⟨?_,hc.qk,⟨by rw[hc.qu.len];show _=(s.qs.map _).length;rw[List.length_map],fun k vq x' hvq hx'=>?_,hc.qu.nd⟩,fun x' hx'=>?_⟩
  ·have:=hc.cor.keep (fun b hb=>by
    have hbf:b∈v.foot:=List.mem_append.2 (.inl hb);refine kt b (hc.old b hbf) (ne b hbf).1 (ne b hbf).2 (fun Z f e=>?_);exact hc.cor.apart e (by decide) hb)
   show CorAt w' win v.k ⟨s.d,s.st,(s.qs.map (failQ o)).map (·.c),s.told⟩;rw[hmap];exact this
  ·have hx'':(s.qs.map (failQ o))[k]?=some x':=hx';rw[List.getElem?_map]at hx'';obtain⟨x,hx,rfl⟩:=Option.map_eq_some_iff.1 hx'';have hQ:=hc.qu.qu k vq x hvq hx;obtain⟨f1,f2,f3⟩:=fail_qd o vq x;have hmem:∀b∈vq.foot,b∈v.foot:=fun b hb=>List.mem_append.2 (.inr (mem_feetQ.2 ⟨vq,List.mem_of_getElem? hvq,hb⟩))
   have hb1:=a3 vq.q _ (h.qdAt hv hs hvq hx);rw[hMR.cnt,h.count hv hs hvq hx o]at hb1;have my:=hmem vq.yb (by simp[QI.foot]);have mv:=hmem vq.vb (by simp[QI.foot]);refine⟨by rw[f1];exact hb1,?_,?_,?_⟩
   ·show _=some (Obj.cells (yesC (failQ o x).ps) 4 (0,0));rw[f2];exact(kt vq.yb (hc.old _ my) (ne _ my).1 (ne _ my).2 (ty hQ.yes (by decide))).trans hQ.yes
   ·show _=some (Obj.cells (valC (failQ o x).ps) 9 (0,0));rw[f3];exact(kt vq.vb (hc.old _ mv) (ne _ mv).1 (ne _ mv).2 (ty hQ.val (by decide))).trans hQ.val
   ·rcases hQ.keys with e|⟨b',c',Z,e1,e2,e3,e4,hZ,e5⟩
    ·exact .inl e
    ·have mk:=hmem b' (by simp[QI.foot,e1]);exact .inr ⟨b',c',Z,e1,e2,e3,e4,(kt b' (hc.old _ mk) (ne _ mk).1 (ne _ mk).2 (ty hZ (by decide))).trans hZ,e5⟩
  ·have hx'':x'∈s.qs.map (failQ o):=hx';obtain⟨x,hx,rfl⟩:=List.mem_map.1 hx'';exact(hc.ok x hx).fail o
 ·rw[hfs];exact r1
 ·rcases r2 b hm' with h3|h3
  ·exact h.ap j z hz b hb h3
  ·have:=civ_old h hz b hb;omega
 ·rw[fail_opnJ];rw[List.getElem?_set]at hz;split at hz
  ·rename_i e;subst e;cases hz;exact MapR.none o _
  ·rename_i e;exact(h.mr o' z hz).fell e
 ·obtain⟨s,hs,rfl⟩:=List.mem_map.1 hs';show(s.qs.map _).length≤win;rw[List.length_map];exact h.wl s hs
 ·unfold footQ at hb⊢;rcases List.mem_cons.1 hb with e|hb
  ·exact .inl (by rw[e];simp)
  rcases List.mem_append.1 hb with hb|hb
  ·exact .inl (List.mem_cons_of_mem _ (List.mem_append.2 (.inl hb)))
  rcases List.mem_append.1 hb with hb|hb
  ·exact .inl (List.mem_cons_of_mem _ (List.mem_append.2 (.inr (List.mem_append.2 (.inl hb)))))
  ·rcases r2 b hb with h3|h3
   ·exact .inl (List.mem_cons_of_mem _ (List.mem_append.2 (.inr (List.mem_append.2 (.inr h3)))))
   ·exact .inr h3
def runsJ (sv pt win n:Nat)(st:List CliQ×List SrvQ):List CliQ×List SrvQ:=(List.range n).foldl (fun st i=>runJ sv pt win i st) st
theorem runsJ_succ (sv pt win n:Nat)(st:List CliQ×List SrvQ):runsJ sv pt win (n+1) st=runJ sv pt win n (runsJ sv pt win n st):=by
 unfold runsJ;rw[List.range_succ,List.foldl_append];rfl
theorem runsJ_len (sv pt win:Nat):∀(n:Nat) (st:List CliQ×List SrvQ),(runsJ sv pt win n st).1.length=st.1.length:=by
 intro n;induction n with
 |zero=>intro st;rfl
 |succ n ih=>intro st;rw[runsJ_succ,runJ_len,ih]
def fallJ (sv pt win o:Nat)(st:List CliQ×List SrvQ):List CliQ×List SrvQ:=runsJ sv pt win st.1.length (st.1.map (failC o),fellS o st.2)
theorem heldSum_map (o:Nat)(cs:List CliQ):heldSum (cs.map (failC o))=heldSum cs:=by
 unfold heldSum;rw[List.map_map];rfl
theorem BdJ.fell (h:BdJ win T cs ss)(o:Nat):BdJ win T (cs.map (failC o)) (fellS o ss):=by
 refine⟨fun s' hs'=>?_,fun s' hs'=>?_,fun u hu=>?_⟩
 ·obtain⟨s,hs,rfl⟩:=List.mem_map.1 hs';have:=h.told s hs;show s.told.length+1000*((s.qs.map _).length+s.st.held.length)≤T;rw[List.length_map];exact this
 ·obtain⟨s,hs,rfl⟩:=List.mem_map.1 hs';show(s.qs.map _).length≤win;rw[List.length_map];exact h.wl s hs
 ·rw[heldSum_map];unfold fellS at hu;split at hu
  ·exact h.srv u hu
  ·rename_i s hs;rcases List.mem_or_eq_of_mem_set hu with h1|h1
   ·exact h.srv u h1
   ·rw[h1];exact h.srv s (List.mem_of_getElem? hs)
theorem fall_jun {w:World}(h:JunQ w X sv pt win g sc cv cis cs vs ss)(hu:vs[o]?=some u)(hsu:ss[o]?=some su)(hT:T+5000≤100000000000)(hb:BdJ win T cs ss):Calls Tryz.prog 64 #[.pointer (some ⟨X,0,none⟩),.pointer (some ⟨u.S,0,none⟩)] w fun e w'=>e= .returned (.tuple #[])∧∃cis' vs',JunQ w' X sv pt win g sc cv cis' (fallJ sv pt win o (cs,ss)).1 vs' (fallJ sv pt win o (cs,ss)).2∧cis'.length=cis.length∧BdJ win T (fallJ sv pt win o (cs,ss)).1 (fallJ sv pt win o (cs,ss)).2∧Chg (footQ X cv cis vs) w w'∧Later w (footQ X cv cis vs) (footQ X cv cis' vs'):=by
 have HF:=hide' (sfall_jun h hu hsu);have HB:=hide' (hb.fell o);have hlen:cs.length=cis.length:=h.cl.symm;have hc4:=h.c4;obtain⟨ca,cc,hcv⟩:=h.cvLen;obtain⟨vs1,hvs1⟩:∃vs1,vs.set o {u with hb:=none,l:=[]}=vs1:=⟨_,rfl⟩
 rw[hvs1]at HF;obtain⟨M,hM⟩:∃M,footQ X cv cis vs=M:=⟨_,rfl⟩
 rw[hM]at HF;simp only[hM]
 obtain⟨n,hn⟩:∃n,cis.length=n:=⟨_,rfl⟩
 have HN:=hide' (And.intro hn hlen);rw[hn]at hc4 hcv;subst hcv;have HR:Hid (∀(wr:World) (cis1:List CliV) (cs1:List CliQ) (vs1:List SrvV) (ss1:List SrvQ) (i:Nat) (v:CliV),JunQ wr X sv pt win g sc (.slice ca n cc) cis1 cs1 vs1 ss1→cis1[i]?=some v→BdJ win T cs1 ss1→Calls Tryz.prog 59 #[.pointer (some ⟨X,0,none⟩),.pointer (some ⟨v.k.C,0,none⟩)] wr fun e w'=>e= .returned (.tuple #[])∧∃v' vs',v'.k.C=v.k.C∧JunQ w' X sv pt win g sc (.slice ca n cc) (cis1.set i v') (runJ sv pt win i (cs1,ss1)).1 vs' (runJ sv pt win i (cs1,ss1)).2∧BdJ win T (runJ sv pt win i (cs1,ss1)).1 (runJ sv pt win i (cs1,ss1)).2∧Chg (footQ X (.slice ca n cc) cis1 vs1) wr w'∧Later wr (footQ X (.slice ca n cc) cis1 vs1) (footQ X (.slice ca n cc) (cis1.set i v') vs')):=fun wr cis1 cs1 vs1 ss1 i v h1 hv hb1=>readOn_jun h1 hv hT hb1
 clear h hu hsu hb hlen hM hvs1 hn;go_enter Tryz.func64,Tryz.ntmps64;go_wp2_with fail
 go_at_call 95;refine HF.out.mono ?_;rintro e w1 ⟨rfl,h1,k1,l1⟩;have c3:=(juCells h1.blk).2.2.2.1;have hlt:=blkLt h1.blk;have H1:=hide' (And.intro h1 (And.intro k1 l1));clear h1 k1 l1 HF;go_wp2_with fail
 go_loopw [13] (fun i wr=>∃(j:Nat) (cis1:List CliV) (vs2:List SrvV),j≤n∧i= .int .i64 (j:Int)∧Hid (JunQ wr X sv pt win g sc (.slice ca n cc) cis1 (runsJ sv pt win j (cs.map (failC o),fellS o ss)).1 vs2 (runsJ sv pt win j (cs.map (failC o),fellS o ss)).2∧cis1.length=n∧BdJ win T (runsJ sv pt win j (cs.map (failC o),fellS o ss)).1 (runsJ sv pt win j (cs.map (failC o),fellS o ss)).2∧Chg M w wr∧Later w M (footQ X (.slice ca n cc) cis1 vs2))) (fun i _=>n-(intOf i).toNat)
 case atStart=>exact⟨0,cis,vs1,Nat.zero_le _,rfl,H1.out.1,HN.out.1,HB.out,H1.out.2.1,H1.out.2.2⟩
 case round=>
  obtain⟨j,cis1,vs2,hj,rfl,HJ⟩:=hrel;by_cases hlt2:j<n
  ·have hlt':(j:Int)<(n:Int):=by omega
   obtain⟨v,hv⟩:∃v,cis1[j]?=some v:=⟨_,List.getElem?_eq_getElem (by rw[HJ.out.2.1];exact hlt2)⟩
   obtain⟨gg,c',e1,hgl,hgc⟩:=HJ.out.1.cvAt hv;rw[HJ.out.2.1]at e1;cases e1;have HRd:=hide' (HR.out wr cis1 _ vs2 _ j v HJ.out.1 hv HJ.out.2.2.1);have HV:=hide' hv;have hcc:n≤cc∨True:= .inr trivial;obtain⟨C,hC⟩:∃C,v.k.C=C:=⟨_,rfl⟩
   rw[hC]at hgc HRd;clear hv hC hcc;go_wp2_with fail
   go_at_call 59;refine HRd.out.mono ?_;rintro e w3 ⟨rfl,v',vs3,b1,b2,b3,b4,b5⟩;have H3:=hide' (And.intro b2 (And.intro b3 (And.intro b4 b5)));clear b1 b2 b3 b4 b5 HRd;go_wp2;go_roundw;case rel=>
    obtain⟨b2,b3,b4,b5⟩:=H3.out;obtain⟨_,hl,_,hk,hlt⟩:=HJ.out;refine⟨j+1,cis1.set j v',vs3,by omega,by go_num,?_⟩;rw[runsJ_succ];exact⟨b2,by rw[List.length_set];exact hl,b3,hk.trans b4 hlt,hlt.trans b5 hk.size⟩
   case measure=>simp[intOf];omega
  ·have hjn:j=n:=by omega
   subst hjn;go_wp2;go_end0;obtain⟨a1,a2,a3,a4,a5⟩:=HJ.out;have e:fallJ sv pt win o (cs,ss)=runsJ sv pt win j (cs.map (failC o),fellS o ss):=by
    unfold fallJ;simp only
    rw[HN.out.2,HN.out.1]
   rw[e,HN.out.1];exact⟨rfl,cis1,vs2,a1,a2,a3,a4,a5⟩
set_option maxHeartbeats 1000000
set_option maxRecDepth 100000
variable {a b ss:List SrvQ}{s:SrvQ}{o i k m sv pt win:Nat}{cs:List CliQ}{r:Reply}{st:List CliQ×List SrvQ}
def SameIn (ss ss':List SrvQ):Prop:=ss'.length=ss.length∧∀(j:Nat) (s':SrvQ),ss'[j]?=some s'→∃s,ss[j]?=some s∧s'.held=s.held∧s'.up=s.up
theorem SameIn.refl (ss:List SrvQ):SameIn ss ss:=⟨rfl,fun j s' h=>⟨s',h,rfl,rfl⟩⟩
theorem SameIn.trans {c:List SrvQ}(h:SameIn a b)(k:SameIn b c):SameIn a c:=⟨k.1.trans h.1,fun j s' hs=>by
 obtain⟨s1,h1,e1,e2⟩:=k.2 j s' hs
 obtain⟨s2,h2,e3,e4⟩:=h.2 j s1 h1
 exact⟨s2,h2,e1.trans e3,e2.trans e4⟩⟩
theorem SameIn.at_ (h:SameIn a b){j:Nat}(hs:a[j]?=some s):∃s',b[j]?=some s'∧s'.held=s.held∧s'.up=s.up:=by
 have hj:j<b.length:=by rw[h.1];exact(List.getElem?_eq_some_iff.1 hs).1
 obtain⟨s2,h2,e1,e2⟩:=h.2 j _ (List.getElem?_eq_getElem hj);rw[hs]at h2;cases h2;exact⟨_,List.getElem?_eq_getElem hj,e1,e2⟩
theorem sendsK_in (sv pt:Nat)(k:Int)(val:ByteArray)(ex:List (Nat×Nat))(ss:List SrvQ)(ks:List ByteArray):SameIn ss (sendsK sv pt k val ex ss ks).1:=
 sendsK_ind sv pt k val ex ss (fun ks st=>SameIn ss st.1) (SameIn.refl _) (fun ks key st hP=>by
  unfold sendK;split
  ·exact hP
  ·rename_i s hs;split
   ·refine hP.trans ⟨by simp,fun j s' hj=>?_⟩;rw[List.getElem?_set]at hj;split at hj
    ·rename_i e;subst e;split at hj
     ·cases hj;exact⟨s,hs,rfl,rfl⟩
     ·cases hj
    ·exact⟨s',hj,rfl,rfl⟩
   ·exact hP) ks
theorem servF_in (sv pt win:Nat)(ex:List (Nat×Nat)):∀(f:Nat) (s:CliQ) (ss:List SrvQ),SameIn ss (servF sv pt win ex f s ss).2:=by
 intro f;induction f with
 |zero=>intro s ss;exact SameIn.refl _
 |succ f ih=>
  intro s ss;unfold servF;split
  ·split
   ·exact SameIn.refl _
   ·exact(sendsK_in _ _ _ _ _ _ _).trans (ih _ _)
  ·exact SameIn.refl _
theorem runJ_in (sv pt win i:Nat)(st:List CliQ×List SrvQ):SameIn st.2 (runJ sv pt win i st).2:=by
 unfold runJ;split
 ·exact SameIn.refl _
 ·exact servF_in _ _ _ _ _ _ _
def heldOf (ss:List SrvQ)(o:Nat):Nat:=match ss[o]?with
 |some s=>s.held.length
 |none=>0
theorem heldOf_some (h:ss[o]?=some s):heldOf ss o=s.held.length:=by unfold heldOf;rw[h]
def lisF (sv pt win o:Nat):Nat→List CliQ×List SrvQ→(List CliQ×List SrvQ)×Bool
 |0,st=>(st,true)
 |f+1,st=>match st.2[o]?with
  |none=>(st,true)
  |some s=>match hearO st.1 s o with
   |⟨.inl ok⟩=>(st,ok)
   |⟨.inr (i,k,m,r)⟩=>lisF sv pt win o f (runJ sv pt win i (anJ st.1 i k m r,st.2.set o {s with held:=s.held.drop r.used}))
theorem hearO_got (h:hearO cs s o= .got i k m r):7≤r.used∧r.used≤s.held.length∧findP o r.id cs 0=some (i,k,m)∧mayB (kindAt cs i k) r=true∧fromR s.held=(some r,true):=by
 unfold hearO at h;split at h
 ·cases h
 ·rename_i r' ok hf;obtain⟨e,_,_,_,h7,hl⟩:=fromR_some hf;subst e;split at h
  ·cases h
  ·rename_i i' k' m' hp;split at h
   ·cases h;exact⟨h7,hl,hp,‹_›,hf⟩
   ·cases h
theorem got_held (hs:st.2[o]?=some s)(h:hearO st.1 s o= .got i k m r):∃s',(runJ sv pt win i (anJ st.1 i k m r,st.2.set o {s with held:=s.held.drop r.used})).2[o]?=some s'∧s'.held=s.held.drop r.used∧s'.up=s.up∧s'.held.length<s.held.length:=by
 obtain⟨h7,hl,_⟩:=hearO_got h;have hol:=(List.getElem?_eq_some_iff.1 hs).1;obtain⟨s',a1,a2,a3⟩:=(runJ_in sv pt win i (anJ st.1 i k m r,st.2.set o {s with held:=s.held.drop r.used})).at_ (List.getElem?_set_self hol);exact⟨s',a1,a2,a3,by rw[a2];show(s.held.drop r.used).length<_;rw[List.length_drop];omega⟩
theorem lisF_more (sv pt win o:Nat):∀(f:Nat) (st:List CliQ×List SrvQ) (g:Nat),heldOf st.2 o<f→f≤g→lisF sv pt win o g st=lisF sv pt win o f st:=by
 intro f;induction f with
 |zero=>intro st g h _;omega
 |succ f ih=>
  intro st g h hg;obtain⟨g,rfl⟩:∃z,g=z+1:=⟨g-1,by omega⟩
  unfold lisF;cases hs:st.2[o]?with
  |none=>rfl
  |some s=>
   simp only
   cases hh:hearO st.1 s o using HO.el with
   |stop ok=>rfl
   |got i k m r=>
    simp only
    obtain⟨s',a1,_,_,a4⟩:=got_held (sv:=sv) (pt:=pt) (win:=win) hs hh;rw[heldOf_some hs]at h;exact ih _ g (by rw[heldOf_some a1];omega) (by omega)
def lisJ (sv pt win o:Nat)(st:List CliQ×List SrvQ):(List CliQ×List SrvQ)×Bool:=lisF sv pt win o (heldOf st.2 o+1) st
theorem lisJ_stop {ok:Bool}(hs:st.2[o]?=some s)(h:hearO st.1 s o= .stop ok):lisJ sv pt win o st=(st,ok):=by
 unfold lisJ lisF;rw[hs];simp only
 rw[h]
theorem lisJ_got (hs:st.2[o]?=some s)(h:hearO st.1 s o= .got i k m r):lisJ sv pt win o st=lisJ sv pt win o (runJ sv pt win i (anJ st.1 i k m r,st.2.set o {s with held:=s.held.drop r.used})):=by
 obtain⟨s',a1,_,_,a4⟩:=got_held (sv:=sv) (pt:=pt) (win:=win) hs h;unfold lisJ;conv=>lhs;unfold lisF;rw[hs];simp only;rw[h]
 simp only
 rw[heldOf_some hs];exact lisF_more sv pt win o _ _ _ (Nat.lt_succ_self _) (by rw[heldOf_some a1];omega)
def listenJ (sv pt win o:Nat)(st:List CliQ×List SrvQ):List CliQ×List SrvQ:=if(lisJ sv pt win o st).2=true then(lisJ sv pt win o st).1 else fallJ sv pt win o (lisJ sv pt win o st).1
theorem BdJ.an {T:Nat}(h:BdJ win T cs ss)(i k m o:Nat)(r:Reply)(hs:ss[o]?=some s)(l:List UInt8):BdJ win T (anJ cs i k m r) (ss.set o {s with held:=l}):=by
 have hS:∀u∈ss.set o {s with held:=l},u.next<65536∧u.sent.length+4000*heldSum cs≤T:=fun u hu=>by
  rcases List.mem_or_eq_of_mem_set hu with h1|h1
  ·exact h.srv u h1
  ·rw[h1];exact h.srv s (List.mem_of_getElem? hs)
 unfold anJ;split
 ·exact⟨h.told,h.wl,hS⟩
 ·rename_i c hc;have hm:=List.mem_of_getElem? hc;have e:(anC c k m r).told=c.told∧(anC c k m r).qs.length=c.qs.length∧(anC c k m r).st=c.st:=by
   unfold anC;split
   ·exact⟨rfl,rfl,rfl⟩
   ·exact⟨rfl,by simp,rfl⟩
  refine⟨fun x hx=>?_,fun x hx=>?_,fun u hu=>?_⟩
  ·rcases List.mem_or_eq_of_mem_set hx with h1|h1
   ·exact h.told x h1
   ·rw[h1,e.1,e.2.1,e.2.2];exact h.told c hm
  ·rcases List.mem_or_eq_of_mem_set hx with h1|h1
   ·exact h.wl x h1
   ·rw[h1,e.2.1];exact h.wl c hm
  ·have e2:heldSum (cs.set i (anC c k m r))=heldSum cs:=by rw[heldSum_set hc,heldSum_at hc,e.2.2]
   rw[e2];exact hS u hu
section
variable {W W':World}{X sv pt win g sc:Nat}{cv:Value}{cis:List CliV}{cs:List CliQ}{vs:List SrvV}{ss:List SrvQ}
theorem JunQ.old (h:JunQ W X sv pt win g sc cv cis cs vs ss):∀b∈footQ X cv cis vs,b<W.heap.size:=by
 intro b hb;unfold footQ at hb;rcases List.mem_cons.1 hb with e|hb
 ·rw[e];exact blkLt h.blk
 rcases List.mem_append.1 hb with hb|hb
 ·exact(h.nRow (mem_own hb)).1
 rcases List.mem_append.1 hb with hb|hb
 ·obtain⟨i,v,hv,hbv⟩:=mem_civ.1 hb;exact civ_old h hv b hbv
 ·exact h.srv.old b hb
theorem JunQ.keep (h:JunQ W X sv pt win g sc cv cis cs vs ss)(k:∀b,b∈footQ X cv cis vs∨b=g→W'.heap[b]?=W.heap[b]?):JunQ W' X sv pt win g sc cv cis cs vs ss:=by
 obtain⟨Zg,g1,g2⟩:=h.gb;have kc:∀(i:Nat) (v:CliV),cis[i]?=some v→∀b∈v.foot,W'.heap[b]?=W.heap[b]?:=fun i v hv b hb=>k b (.inl (by unfold footQ;exact List.mem_cons_of_mem _ (List.mem_append.2 (.inr (List.mem_append.2 (.inl (mem_civ.2 ⟨i,v,hv,hb⟩)))))))
 exact⟨(k X (.inl (by simp[footQ]))).trans h.blk,⟨Zg,(k g (.inr rfl)).trans g1,g2⟩,h.len,h.s1,h.s4,h.sc_,h.pt_,h.w6,ownsRow_other h.row (fun gg hg=>k gg (.inl (by simp[footQ,hg]))),h.cl,h.c4,fun i v s hv hs=>(h.cli i v s hv hs).keep (kc i v hv),h.cap,h.srv.keep (fun b hb=>k b (.inl (by unfold footQ;exact List.mem_cons_of_mem _ (List.mem_append.2 (.inr (List.mem_append.2 (.inr hb))))))),h.ap,h.mr,h.wl⟩
theorem JunQ.below (h:JunQ W X sv pt win g sc cv cis cs vs ss)(hb:Below W.heap.size W W'):JunQ W' X sv pt win g sc cv cis cs vs ss:=by
 refine h.keep (fun b hb'=>?_);obtain⟨Zg,g1,_⟩:=h.gb;rcases hb' with e|e
 ·exact hb.block b (h.old b e)
 ·rw[e];exact hb.block g (blkLt g1)
theorem JunQ.chg {N:List Nat}(h:JunQ W X sv pt win g sc cv cis cs vs ss)(hc:Chg N W W')(hn:∀b∈N,b∉footQ X cv cis vs∧b≠g):JunQ W' X sv pt win g sc cv cis cs vs ss:=by
 refine h.keep (fun b hb=>?_);obtain⟨Zg,g1,_⟩:=h.gb;rcases hb with e|e
 ·exact hc.block b (h.old b e) (fun hm=>(hn b hm).1 e)
 ·rw[e];exact hc.block g (blkLt g1) (fun hm=>(hn g hm).2 rfl)
end
def heldLenS (w:World)(D:Nat):Nat:=
 match w.cell? ⟨D,3,none⟩,w.cell? ⟨D,4,none⟩with
 |some (.slice _ n _),some (.int _ u)=>n-u.toNat
 |_,_=>0
theorem SInAt.len {W:World}{D:Nat}{t:SvP}{hb:Option Nat}{s:St}(R:SInAt W D hb t s):heldLenS W D=s.held.length:=by
 obtain⟨⟨v,u,hD,H,hiv⟩,hne⟩:=R;obtain⟨d0,d1,d2,_⟩:=siCells hD;unfold heldLenS;rw[d1,d2];rcases H.form with⟨rfl,rfl,e,_⟩|⟨g,n,c,all,rfl,_,_,hn,hnc,hu,e,hsm,_⟩
 ·rw[e];rfl
 ·rw[e,List.length_drop,hn];simp
theorem listen1_yes (sb xb yb:Nat)(u:FrameMode)(w:World)(c0:w.cell? ⟨sb,0,none⟩=some (.bool true)):CallsD Tryz.prog 93 #[.pointer (some ⟨sb,0,none⟩),.pointer (some ⟨xb,0,none⟩),.pointer (some ⟨yb,0,none⟩)] u w fun e u' w'=>u'=u∧(e= .returned (.tuple #[])∧w'=w):=by
 have hlt:=World.block_lt_of_cell? w ⟨sb,0,none⟩ c0;go_enter_d Tryz.func93,Tryz.ntmps93
 go_wp2;go_end0;exact⟨rfl,rfl⟩
theorem listen1_no (sb xb yb X S:Nat)(u:FrameMode)(w:World)(Q:World→Prop)(c0:w.cell? ⟨sb,0,none⟩=some (.bool false))(c1:w.cell? ⟨xb,0,none⟩=some (.pointer (some ⟨X,0,none⟩)))(c2:w.cell? ⟨yb,0,none⟩=some (.pointer (some ⟨S,0,none⟩)))(hc:Calls Tryz.prog 64 #[.pointer (some ⟨X,0,none⟩),.pointer (some ⟨S,0,none⟩)] w fun e w'=>e= .returned (.tuple #[])∧Q w'):CallsD Tryz.prog 93 #[.pointer (some ⟨sb,0,none⟩),.pointer (some ⟨xb,0,none⟩),.pointer (some ⟨yb,0,none⟩)] u w fun e u' w'=>u'=u∧(e= .returned (.tuple #[])∧Q w'):=by
 have hlt:=World.block_lt_of_cell? w ⟨sb,0,none⟩ c0;have hlt1:=World.block_lt_of_cell? w ⟨xb,0,none⟩ c1;have hlt2:=World.block_lt_of_cell? w ⟨yb,0,none⟩ c2;have HC:=hide' hc;clear hc;go_enter_d Tryz.func93,Tryz.ntmps93
 go_wp2_with fail
 go_at_call 64;refine HC.out.mono ?_;rintro e w1 ⟨rfl,hq⟩;have HQ:=hide' hq;clear hq;go_wp2;go_end0;exact⟨rfl,HQ.out⟩
set_option maxHeartbeats 1000000
set_option maxRecDepth 100000
variable {W W':World}{win i:Nat}{v:CliV}{s:CliQ}
def tookQ (s:CliQ)(piece:List UInt8):CliQ:={s with st:=takeS s.st piece}
theorem CliAt.took (h:CliAt W win v s)(st':St)(hT:RdrTo W W' v.k.R v.k.hb v.k.t st'):∃v':CliV,v'.k.C=v.k.C∧v'.qi=v.qi∧CliAt W' win v' {s with st:=st'}∧Chg v.foot W W'∧Later W v.foot v'.foot:=by
 obtain⟨hb',a1,a2,a3⟩:=h.cor.took st' hT;obtain⟨b1,b2,b3⟩:=h.corTo a2 a1 rfl a3;exact⟨⟨{v.k with hb:=hb'},v.qi⟩,rfl,rfl,b1,b2,b3⟩
theorem CorAt.looked {v:CliI}{s:CliS}(h:CorAt W win v s)(k:Chg v.bv.ownBlock.toList W W')(hb:BldRow W' v.bv s.told):CorAt W' win v s∧Chg v.foot W W':=by
 obtain⟨n1,n2,n3,n4,n5⟩:=h.nC;obtain⟨m1,m2,m3,m4⟩:=h.nCh;have k':Chg v.foot W W':=k.more (fun b hb=>by simp[CliI.foot,optMem hb]);have kb:∀b∈v.foot,v.bv.ownBlock≠some b→W'.heap[b]?=W.heap[b]?:=fun b hb h1=>k.block b (h.old b hb) (fun hm=>h1 (optMem hm))
 obtain⟨buf,a,b,tm,c1,c2⟩:=h.chan;exact⟨⟨(kb _ (by simp[CliI.foot]) n5).trans h.blk,h.rd.other (kb _ (by simp[CliI.foot]) (fun e=>(h.nB e).2.1 rfl)) (fun b hb=>kb b (by simp[CliI.foot,hb]) (fun e=>(h.nB e).2.2.1 hb)),h.di,⟨buf,a,b,tm,(kb _ (by simp[CliI.foot]) m4).trans c1,c2⟩,ownsRow_other h.row (fun g hg=>kb g (by simp[CliI.foot,hg]) (h.nW hg).2.2.2),h.ql,h.bpv,hb,h.ab⟩,k'⟩
theorem SrvAt.looked {v:SrvV}{s:SrvQ}(h:SrvAt W v s)(k:Chg v.bv.ownBlock.toList W W')(hb:BldRow W' v.bv s.sent):SrvAt W' v s∧Chg v.foot W W':=by
 have k':Chg v.foot W W':=k.more (fun b hb=>by simp[SrvV.foot,optMem hb]);obtain⟨n1,n2,n3,n4,n5⟩:=h.nS;have kb:∀b∈v.foot,v.bv.ownBlock≠some b→W'.heap[b]?=W.heap[b]?:=fun b hb h1=>k.block b (h.old b hb) (fun hm=>h1 (optMem hm))
 refine⟨⟨h.inb.keep (fun b hb=>?_),h.mp.other (kb _ (by simp[SrvV.foot]) n5),h.bpv,hb,h.nx,h.ab⟩,k'⟩;rcases hb with e|e
 ·rw[e];exact kb _ (by simp[SrvV.foot]) n3
 ·exact kb b (by simp[SrvV.foot,e]) (fun e2=>h.ab b e2 e)
def saidJ (sv pt win i:Nat)(piece:List UInt8)(st:List CliQ×List SrvQ):List CliQ×List SrvQ:=match st.1[i]?with
 |none=>st
 |some s=>runJ sv pt win i (st.1.set i (tookQ s piece),st.2)
section
variable {w:World}{X sv pt win g sc:Nat}{cv:Value}{cis:List CliV}{cs:List CliQ}{vs:List SrvV}{ss:List SrvQ}
theorem sayQ_yes (h:JunQ w X sv pt win g sc cv cis cs vs ss)(hv:cis[i]?=some v)(hs:cs[i]?=some s)(piece:ByteArray){T:Nat}(hT:T+5000≤100000000000)(hb:BdJ win T (cs.set i (tookQ s piece.data.toList)) ss)(h2:2*s.st.held.length+piece.size≤140737488355328):Calls Tryz.prog 28 #[.pointer (some ⟨X,0,none⟩),.int .i64 (i:Int),.string piece] w fun e w'=>e= .returned (.int .i64 0)∧∃cis' vs',JunQ w' X sv pt win g sc cv cis' (saidJ sv pt win i piece.data.toList (cs,ss)).1 vs' (saidJ sv pt win i piece.data.toList (cs,ss)).2∧cis'.length=cis.length∧BdJ win T (saidJ sv pt win i piece.data.toList (cs,ss)).1 (saidJ sv pt win i piece.data.toList (cs,ss)).2∧Chg (footQ X cv cis vs) w w'∧Later w (footQ X cv cis vs) (footQ X cv cis' vs'):=by
 obtain⟨gg,c,rfl,hgl,hgc⟩:=h.cvAt hv;have hi:=(List.getElem?_eq_some_iff.1 hv).1;have hrun:=h.run hv hs;have c3:=(juCells h.blk).2.2.2.1;have hlt:=blkLt h.blk;have hn:=h.c4;have d0:=(clCells hrun.cli.cor.blk).1;have hltC:=blkLt hrun.cli.cor.blk;have HN:=hide' (at_yes 56 (.inl rfl) gg cis.length c i v.k.C w (by omega) hi hgc hgl);have HTk:=hide' (take_any v.k.R v.k.t v.k.hb s.st piece w hrun.cli.cor.rd h2);have HRun:Hid (∀w',RdrTo w w' v.k.R v.k.hb v.k.t (takeS s.st piece.data.toList)→Calls Tryz.prog 59 #[.pointer (some ⟨X,0,none⟩),.pointer (some ⟨v.k.C,0,none⟩)] w' fun e w2=>e= .returned (.tuple #[])∧∃cis' vs',JunQ w2 X sv pt win g sc (.slice (some ⟨gg,0,none⟩) cis.length c) cis' (saidJ sv pt win i piece.data.toList (cs,ss)).1 vs' (saidJ sv pt win i piece.data.toList (cs,ss)).2∧cis'.length=cis.length∧BdJ win T (saidJ sv pt win i piece.data.toList (cs,ss)).1 (saidJ sv pt win i piece.data.toList (cs,ss)).2∧Chg (footQ X (.slice (some ⟨gg,0,none⟩) cis.length c) cis vs) w w2∧Later w (footQ X (.slice (some ⟨gg,0,none⟩) cis.length c) cis vs) (footQ X (.slice (some ⟨gg,0,none⟩) cis.length c) cis' vs')):=fun w' hT'=>by
  obtain⟨v1,e1,e2,a1,a2,a3⟩:=hrun.cli.took _ hT';have hrun':=hrun.cliTo a2 a3 a1 (by rw[e1,e2]);obtain⟨r1,r2,r3⟩:=h.ran hv hrun' e1 (a2.more (fun b hb=>List.mem_append.2 (.inl hb))) ((Later.refl _ _).app (Nat.le_refl _) a3 (Later.refl _ _)) (h.wl s (List.mem_of_getElem? hs));have hro:=readOn_jun r1 (List.getElem?_set_self hi) hT hb;rw[e1]at hro;refine hro.mono ?_;rintro e w2 ⟨rfl,v',vs',b1,b2,b3,b4,b5⟩;have es:saidJ sv pt win i piece.data.toList (cs,ss)=runJ sv pt win i (cs.set i (tookQ s piece.data.toList),ss):=by unfold saidJ;simp only[hs]
  rw[es];exact⟨rfl,_,vs',b2,by simp,b3,r2.trans b4 r3,r3.trans b5 r2.size⟩
 clear h hrun hb hgc hgl hn;go_enter Tryz.func28,Tryz.ntmps28;go_wp2_with fail
 go_at_call 56;refine HN.out.mono ?_;rintro e w1 ⟨rfl,hw1⟩;subst hw1;go_wp2_with fail
 go_at_call 58;refine HTk.out.mono ?_;rintro e w2 ⟨rfl,hto⟩;have HR2:=hide' (HRun.out w2 hto);clear hto;go_wp2_with fail
 go_at_call 59;refine HR2.out.mono ?_;rintro e w3 ⟨rfl,hfin⟩;have HF:=hide' hfin;clear hfin;go_wp2;go_ret;exact⟨rfl,HF.out⟩
theorem toldQ_yes (h:JunQ w X sv pt win g sc cv cis cs vs ss)(hv:cis[i]?=some v)(hs:cs[i]?=some s):Calls Tryz.prog 26 #[.pointer (some ⟨X,0,none⟩),.int .i64 (i:Int)] w fun e w'=>e= .returned (.tuple #[.string (mkB s.told),.int .i64 0])∧JunQ w' X sv pt win g sc cv cis cs vs ss∧Chg (footQ X cv cis vs) w w':=by
 obtain⟨gg,c,rfl,hgl,hgc⟩:=h.cvAt hv;have hi:=(List.getElem?_eq_some_iff.1 hv).1;have hrun:=h.run hv hs;have c3:=(juCells h.blk).2.2.2.1;have hlt:=blkLt h.blk;have hn:=h.c4;have hltC:=blkLt hrun.cli.cor.blk;have HN:=hide' (at_yes 56 (.inl rfl) gg cis.length c i v.k.C w (by omega) hi hgc hgl);have HB:=hide' (bld_string v.k.C 3 v.k.bv s.told w (clCells hrun.cli.cor.blk).2.2.2.2.1 hrun.cli.cor.bld);have HFin:Hid (∀w',BldRow w' v.k.bv s.told→Chg v.k.bv.ownBlock.toList w w'→JunQ w' X sv pt win g sc (.slice (some ⟨gg,0,none⟩) cis.length c) cis cs vs ss∧Chg (footQ X (.slice (some ⟨gg,0,none⟩) cis.length c) cis vs) w w'):=fun w' hb hk=>by
  obtain⟨a1,a2⟩:=hrun.cli.cor.looked hk hb;obtain⟨c1,c2,c3⟩:=hrun.cli.corTo a2 a1 rfl (Later.refl _ _);obtain⟨r1,r2,r3⟩:=h.ran hv (hrun.cliTo c2 c3 c1 rfl) rfl (c2.more (fun b hb=>List.mem_append.2 (.inl hb))) (Later.refl _ _) (h.wl s (List.mem_of_getElem? hs));rw[set_same hs]at r1;rw[show(⟨v.k,v.qi⟩:CliV)=v from rfl,set_same hv]at r1;exact⟨r1,r2⟩
 clear h hrun hgc hgl hn;go_enter Tryz.func26,Tryz.ntmps26;go_wp2_with fail
 go_at_call 56;refine HN.out.mono ?_;rintro e w1 ⟨rfl,hw1⟩;subst hw1;go_wp2_with fail
 go_at_call 57;refine HB.out.mono ?_;rintro e w2 ⟨rfl,hb,hk⟩;have HF:=hide' (HFin.out w2 hb hk);clear hb hk;go_wp2;go_ret2;exact⟨rfl,HF.out⟩
theorem sentQ_yes (h:JunQ w X sv pt win g sc cv cis cs vs ss){v:SrvV}{s:SrvQ}(hv:vs[i]?=some v)(hs:ss[i]?=some s):Calls Tryz.prog 30 #[.pointer (some ⟨X,0,none⟩),.int .i64 (i:Int)] w fun e w'=>e= .returned (.tuple #[.string (mkB s.sent),.int .i64 0])∧JunQ w' X sv pt win g sc cv cis cs vs ss∧Chg (footQ X cv cis vs) w w':=by
 have hi:i<sv:=by rw[←h.len];exact(List.getElem?_eq_some_iff.1 hv).1
 have hok:=h.srv.ok i v s hv hs;obtain⟨Zg,g1,g2⟩:=h.gb;have c4:=(juCells h.blk).2.2.2.2.1;have hlt:=blkLt h.blk;obtain⟨iv,iu,ip,ic,hb0⟩:=hok.blk;have hltS:=blkLt hb0;have HN:=hide' (at_yes 60 (.inr rfl) g sv sc i v.S w (by have:=h.s4;omega) hi ((blkCell g1 i).trans (g2 i v hv)) (blkLt g1));unfold svO at hb0;have HB:=hide' (bld_string v.S 7 v.bv s.sent w (blkCell hb0 8) hok.row);have HFin:Hid (∀w',BldRow w' v.bv s.sent→Chg v.bv.ownBlock.toList w w'→JunQ w' X sv pt win g sc cv cis cs vs ss∧Chg (footQ X cv cis vs) w w'):=fun w' hb hk=>by
  obtain⟨a1,a2⟩:=hok.looked hk hb;have hin:∀b∈v.foot,b∈feetS vs:=fun b hb=>mem_feetS.2 ⟨i,v,hv,hb⟩
  obtain⟨r1,r2⟩:=h.srv.step hv a2 a1 (Later.refl _ _);rw[set_same hv,set_same hs]at r1;obtain⟨nx1,nx2,nx3⟩:=h.nX;refine⟨⟨a2.keep h.blk (fun e=>nx2 (hin X e)),⟨Zg,a2.keep g1 (fun e=>nx3 (hin g e)),g2⟩,h.len,h.s1,h.s4,h.sc_,h.pt_,h.w6,ownsRow_other h.row (fun gg hg=>?_),h.cl,h.c4,fun j z y hz hy=>?_,h.cap,r1,h.ap,h.mr,h.wl⟩,a2.more (fun b hb=>by unfold footQ;exact List.mem_cons_of_mem _ (List.mem_append.2 (.inr (List.mem_append.2 (.inr (hin b hb))))))⟩
  ·obtain⟨b1,b2,b3⟩:=h.nRow hg;exact a2.block gg b1 (fun e=>b3 (hin gg e))
  ·exact(h.cli j z y hz hy).keep (fun b hb=>a2.block b (civ_old h hz b hb) (fun e=>h.ap j z hz b hb (hin b e)))
 clear h g1 g2 hb0;go_enter Tryz.func30,Tryz.ntmps30;go_wp2_with fail
 go_at_call 60;refine HN.out.mono ?_;rintro e w1 ⟨rfl,hw1⟩;subst hw1;go_wp2_with fail
 go_at_call 57;refine HB.out.mono ?_;rintro e w2 ⟨rfl,hb,hk⟩;have HF:=hide' (HFin.out w2 hb hk);clear hb hk;go_wp2;go_ret2;exact⟨rfl,HF.out⟩
end
set_option maxHeartbeats 2000000
set_option maxRecDepth 100000
variable {X sv pt win g sc o:Nat}{cv:Value}{cis:List CliV}{cs:List CliQ}{vs:List SrvV}{ss:List SrvQ}{u:SrvV}
theorem JunQ.sameS {W W':World}{cis':List CliV}{cs':List CliQ}{vs':List SrvV}{ss':List SrvQ}(h:JunQ W X sv pt win g sc cv cis cs vs ss)(h':JunQ W' X sv pt win g sc cv cis' cs' vs' ss')(k:Chg (footQ X cv cis vs) W W')(hu:vs[o]?=some u):∃u',vs'[o]?=some u'∧u'.S=u.S:=by
 obtain⟨Zg,g1,g2⟩:=h.gb;obtain⟨Zg',g1',g2'⟩:=h'.gb;have hn:g∉footQ X cv cis vs:=fun hm=>by
  unfold footQ at hm;rcases List.mem_cons.1 hm with e|hm
  ·have:=h.blk;rw[←e,g1]at this;unfold juO at this;simp at this
  rcases List.mem_append.1 hm with hm|hm
  ·obtain⟨cur,hc⟩:=ownsRow_blk h.row (mem_own hm);rw[g1]at hc;simp at hc
  rcases List.mem_append.1 hm with hm|hm
  ·obtain⟨i,v,hv,hb⟩:=mem_civ.1 hm;exact(h.nX.1 i v hv).2 hb
  ·exact h.nX.2.2 hm
 have hk:=k.keep g1 hn;rw[hk]at g1';simp at g1';subst g1';have ho:o<vs'.length:=by rw[h'.len,←h.len];exact(List.getElem?_eq_some_iff.1 hu).1
 refine⟨vs'[o],List.getElem?_eq_getElem ho,?_⟩;have e1:=g2 o u hu;have e2:=g2' o _ (List.getElem?_eq_getElem ho);rw[e1]at e2;simp at e2;exact e2.symm
structure LisAt (wr:World)(X sv pt win g sc:Nat)(cv:Value)(S o T n0:Nat)(M:List Nat)(w:World)(tgt:(List CliQ×List SrvQ)×Bool)(cis:List CliV)(cs:List CliQ)(vs:List SrvV)(ss:List SrvQ)(b:Bool):Prop where
 jun:JunQ wr X sv pt win g sc cv cis cs vs ss
 at_:∃u,vs[o]?=some u∧u.S=S
 len:cis.length=n0
 bd:BdJ win T cs ss
 chg:Chg M w wr
 lat:∀b∈footQ X cv cis vs,b∈M∨w.heap.size+3≤b
 size:w.heap.size+3≤wr.heap.size
 b0:wr.heap[w.heap.size]?=some (.cells #[.pointer (some ⟨X,0,none⟩)] 53 (0,0))
 b1:wr.heap[w.heap.size+1]?=some (.cells #[.pointer (some ⟨S,0,none⟩)] 137 (0,0))
 b2:wr.heap[w.heap.size+1+1]?=some (.cells #[.bool b] 4 (0,0))
 tg:lisJ sv pt win o (cs,ss)=tgt
section
variable {wr w' w:World}{X sv pt win g sc:Nat}{cv:Value}{S o T n0:Nat}{M:List Nat}{tgt tgt':(List CliQ×List SrvQ)×Bool}{cis cis':List CliV}{cs cs':List CliQ}{vs vs':List SrvV}{ss ss':List SrvQ}{b:Bool}
theorem LisAt.to_ (h:LisAt wr X sv pt win g sc cv S o T n0 M w tgt cis cs vs ss b)(hM:∀b∈M,b<w.heap.size)(k:Chg (footQ X cv cis vs) wr w')(l:Later wr (footQ X cv cis vs) (footQ X cv cis' vs'))(hj:JunQ w' X sv pt win g sc cv cis' cs' vs' ss')(ha:∃u,vs'[o]?=some u∧u.S=S)(hl:cis'.length=n0)(hb:BdJ win T cs' ss')(ht:lisJ sv pt win o (cs',ss')=tgt'):LisAt w' X sv pt win g sc cv S o T n0 M w tgt' cis' cs' vs' ss' b:=by
 have hn:∀i,w.heap.size≤i→i<w.heap.size+3→i∉footQ X cv cis vs:=fun i h1 h2 hm=>by
  rcases h.lat _ hm with e|e
  ·have:=hM _ e;omega
  ·omega
 refine⟨hj,ha,hl,hb,⟨k.os.trans h.chg.os,k.tape.trans h.chg.tape,k.output.trans h.chg.output,Nat.le_trans h.chg.size k.size,fun c hc hcn=>?_⟩,fun c hc=>?_,Nat.le_trans h.size k.size,k.keep h.b0 (hn _ (by omega) (by omega)),k.keep h.b1 (hn _ (by omega) (by omega)),k.keep h.b2 (hn _ (by omega) (by omega)),ht⟩
 ·refine(k.block c (Nat.lt_of_lt_of_le hc h.chg.size) (fun hm=>?_)).trans (h.chg.block c hc hcn);rcases h.lat _ hm with e|e
  ·exact hcn e
  ·omega
 ·rcases l c hc with e|e
  ·exact h.lat c e
  ·have:=h.size;exact .inr (by omega)
theorem LisAt.set (h:LisAt wr X sv pt win g sc cv S o T n0 M w tgt cis cs vs ss b)(hM:∀b∈M,b<w.heap.size)(b':Bool):LisAt (wr.setCell ⟨w.heap.size+1+1,0,none⟩ (.bool b')) X sv pt win g sc cv S o T n0 M w tgt cis cs vs ss b':=by
 have k:Chg [w.heap.size+1+1] wr (wr.setCell ⟨w.heap.size+1+1,0,none⟩ (.bool b')):=(Chg.refl _ wr).set (.inl (by simp)) _;have hn:w.heap.size+1+1∉footQ X cv cis vs:=fun hm=>by
  rcases h.lat _ hm with e|e
  ·have:=hM _ e;omega
  ·omega
 obtain⟨Zg,g1,_⟩:=h.jun.gb;have hg:w.heap.size+1+1≠g:=fun e=>by
  have:=h.b2;rw[e,g1]at this;simp at this
 refine⟨h.jun.chg k (fun c hc=>by simp at hc;rw[hc];exact⟨hn,hg⟩),h.at_,h.len,h.bd,⟨k.os.trans h.chg.os,k.tape.trans h.chg.tape,k.output.trans h.chg.output,Nat.le_trans h.chg.size k.size,fun c hc hcn=>?_⟩,h.lat,by rw[World.size_setCell];exact h.size,k.keep h.b0 (by simp;omega),k.keep h.b1 (by simp),(blkSet (i:=0) h.b2 _).trans rfl,h.tg⟩;exact(k.block c (Nat.lt_of_lt_of_le hc h.chg.size) (by simp;omega)).trans (h.chg.block c hc hcn)
theorem LisAt.below (h:LisAt wr X sv pt win g sc cv S o T n0 M w tgt cis cs vs ss b)(hb:Below wr.heap.size wr w'):LisAt w' X sv pt win g sc cv S o T n0 M w tgt cis cs vs ss b:=
 ⟨h.jun.below hb,h.at_,h.len,h.bd,⟨hb.os.trans h.chg.os,hb.tape.trans h.chg.tape,hb.output.trans h.chg.output,Nat.le_trans h.chg.size hb.size,fun c hc hcn=>(hb.block c (Nat.lt_of_lt_of_le hc h.chg.size)).trans (h.chg.block c hc hcn)⟩,h.lat,Nat.le_trans h.size hb.size,(hb.block _ (blkLt h.b0)).trans h.b0,(hb.block _ (blkLt h.b1)).trans h.b1,(hb.block _ (blkLt h.b2)).trans h.b2,h.tg⟩
end
def LisTo (w w':World)(X sv pt win g sc:Nat)(cv:Value)(T n0:Nat)(M:List Nat)(st:List CliQ×List SrvQ):Prop:=∃cis' vs',JunQ w' X sv pt win g sc cv cis' st.1 vs' st.2∧cis'.length=n0∧BdJ win T st.1 st.2∧Chg M w w'∧Later w M (footQ X cv cis' vs')
theorem listen_jun {w:World}(h:JunQ w X sv pt win g sc cv cis cs vs ss){su:SrvQ}(hu:vs[o]?=some u)(hsu:ss[o]?=some su){T:Nat}(hT:T+5000≤100000000000)(hb:BdJ win T cs ss):Calls Tryz.prog 63 #[.pointer (some ⟨X,0,none⟩),.pointer (some ⟨u.S,0,none⟩)] w fun e w'=>e= .returned (.tuple #[])∧LisTo w w' X sv pt win g sc cv T cis.length (footQ X cv cis vs) (listenJ sv pt win o (cs,ss)):=by
 have hmf:∀(fn:Fn) (first cap:Array Value) (w:World),(Instr.makeFunc fn first cap).run Tryz.prog w= .ok (.func fn first cap) w:=fun _ _ _ _=>rfl
 obtain⟨S,hS⟩:∃S,u.S=S:=⟨_,rfl⟩
 rw[hS];obtain⟨M,hM⟩:∃M,footQ X cv cis vs=M:=⟨_,rfl⟩
 obtain⟨n0,hn0⟩:∃n0,cis.length=n0:=⟨_,rfl⟩
 rw[hM,hn0];have HM:Hid (∀b∈M,b<w.heap.size):=fun b hb'=>h.old b (by rw[hM];exact hb')
 have HB3:Hid (∀O1 O2 O3,Below w.heap.size w (((w.alloc O1).alloc O2).alloc O3)):=fun O1 O2 O3=>(((Below.refl _ _).alloc (Nat.le_refl _) _).alloc (by simp) _).alloc (by simp;omega) _
 have H0:Hid (LisAt (((w.alloc (.cells #[.pointer (some ⟨X,0,none⟩)] 53)).alloc (.cells #[.pointer (some ⟨S,0,none⟩)] 137)).alloc (.cells #[.bool true] 4)) X sv pt win g sc cv S o T n0 M w (lisJ sv pt win o (cs,ss)) cis cs vs ss true):=by
  have hb3:=HB3.out (.cells #[.pointer (some ⟨X,0,none⟩)] 53) (.cells #[.pointer (some ⟨S,0,none⟩)] 137) (.cells #[.bool true] 4);refine⟨h.below hb3,⟨u,hu,hS⟩,hn0,hb,Chg.of_below hb3,fun b hb'=> .inl (by rw[←hM];exact hb'),by simp,?_,?_,?_,rfl⟩
  ·exact hs_alloc (hs_alloc (blkNew w _) _) _
  ·have:=hs_alloc (blkNew (w.alloc (.cells #[.pointer (some ⟨X,0,none⟩)] 53)) (.cells #[.pointer (some ⟨S,0,none⟩)] 137)) (.cells #[.bool true] 4);rw[World.size_alloc]at this;exact this
  ·have:=blkNew ((w.alloc (.cells #[.pointer (some ⟨X,0,none⟩)] 53)).alloc (.cells #[.pointer (some ⟨S,0,none⟩)] 137)) (.cells #[.bool true] 4);rw[World.size_alloc,World.size_alloc]at this;exact this
 have HSu:Hid (∃s,ss[o]?=some s):=⟨su,hsu⟩
 clear h hu hsu hb hS hM hn0;have HEnd:Hid (∀(wr w':World) (cis1:List CliV) (cs1:List CliQ) (vs1:List SrvV) (ss1:List SrvQ) (s1:SrvQ) (b ok:Bool),LisAt wr X sv pt win g sc cv S o T n0 M w (lisJ sv pt win o (cs,ss)) cis1 cs1 vs1 ss1 b→ss1[o]?=some s1→hearO cs1 s1 o= .stop ok→Below wr.heap.size wr w'→CallsD Tryz.prog 93 #[.pointer (some ⟨w.heap.size+1+1,0,none⟩),.pointer (some ⟨w.heap.size,0,none⟩),.pointer (some ⟨w.heap.size+1,0,none⟩)] .returning (w'.setCell ⟨w.heap.size+1+1,0,none⟩ (.bool ok)) fun e u' w2=>u'= .returning∧(e= .returned (.tuple #[])∧LisTo w w2 X sv pt win g sc cv T n0 M (listenJ sv pt win o (cs,ss)))):=fun wr w' cis1 cs1 vs1 ss1 s1 b ok hL hs1 hh hb=>by
  have hL2:=(hL.below hb).set HM.out ok;have ht:=hL2.tg;rw[lisJ_stop (st:=(cs1,ss1)) hs1 hh]at ht;have late:Later w M (footQ X cv cis1 vs1):=fun c hc=>by
   rcases hL2.lat c hc with e|e
   ·exact .inl e
   ·exact .inr (by omega)
  cases ok with
  |true=>
   have e:listenJ sv pt win o (cs,ss)=(cs1,ss1):=by unfold listenJ;rw[←ht];rfl
   rw[e];refine(listen1_yes _ _ _ _ _ (blkCell hL2.b2 0)).mono ?_;rintro e u' w2 ⟨rfl,rfl,rfl⟩;exact⟨rfl,rfl,cis1,vs1,hL2.jun,hL2.len,hL2.bd,hL2.chg,late⟩
  |false=>
   have e:listenJ sv pt win o (cs,ss)=fallJ sv pt win o (cs1,ss1):=by unfold listenJ;rw[←ht];rfl
   rw[e];obtain⟨u1,hu1,hS1⟩:=hL2.at_;have hf:=fall_jun hL2.jun hu1 hs1 hT hL2.bd;rw[hS1]at hf;refine listen1_no _ _ _ X S _ _ _ (blkCell hL2.b2 0) (blkCell hL2.b0 0) (blkCell hL2.b1 0) (hf.mono ?_);rintro e w2 ⟨rfl,cis2,vs2,a1,a2,a3,a4,a5⟩;exact⟨rfl,cis2,vs2,a1,a2.trans hL2.len,a3,hL2.chg.trans a4 late,late.trans a5 hL2.chg.size⟩
 go_enter_defers Tryz.func63,Tryz.ntmps63
 go_wp2_with fail
 generalize ((w.alloc (.cells #[.pointer (some ⟨X,0,none⟩)] 53)).alloc (.cells #[.pointer (some ⟨S,0,none⟩)] 137)).alloc (.cells #[.bool true] 4)=w3 at*;go_loopw [5] (fun _ wr=>∃(cis1:List CliV) (cs1:List CliQ) (vs1:List SrvV) (ss1:List SrvQ) (b:Bool),Hid (LisAt wr X sv pt win g sc cv S o T n0 M w (lisJ sv pt win o (cs,ss)) cis1 cs1 vs1 ss1 b)) (fun _ wr=>heldLenS wr S)
 case atStart=>exact⟨cis,cs,vs,ss,true,H0⟩
 case round=>
  obtain⟨cis1,cs1,vs1,ss1,b,HJ⟩:=hrel;obtain⟨u1,hu1,hS1⟩:=HJ.out.at_;obtain⟨u1',s1,hu1',hs1,hsv⟩:=HJ.out.jun.srv.get (List.getElem?_eq_some_iff.1 hu1).1;rw[hu1]at hu1';cases hu1';have hlen:=hsv.inb.len;rw[hS1]at hlen;have HH:=hear_jun HJ.out.jun hu1 hs1;rw[hS1]at HH;have y1:=blkCell HJ.out.b1 0;have l1:=blkLt HJ.out.b1;have y0:=blkCell HJ.out.b0 0;have l0:=blkLt HJ.out.b0;have y2:=blkCell HJ.out.b2 0;have l2:=blkLt HJ.out.b2;have f2:=blkFree HJ.out.b2 0;simp at y0 y1 y2;have HS1:=hide' (And.intro hu1 (And.intro hS1 (And.intro hs1 hlen)));clear hu1 hS1 hs1 hlen hsv;cases hh:hearO cs1 s1 o using HO.el with
  |stop ok=>
   rw[hh]at HH;simp only at HH;have HHc:=hide' HH;have HHh:=hide' hh;clear HH hh;go_wp2_with fail
   go_at_call 94;refine HHc.out.mono ?_;rintro e w4 ⟨rfl,hb4⟩;have z2:=(hb4.cell (p:=⟨w.heap.size+1+1,0,none⟩) l2).trans y2;have g2:=blkFree ((hb4.block _ l2).trans HJ.out.b2) 0;have m2:=Nat.lt_of_lt_of_le l2 hb4.size;have HB4:=hide' hb4;clear hb4 y0 y1 y2 f2 l0 l1 l2;go_wp2;refine leaves_cons (f:=93) (args:=#[.pointer (some ⟨w.heap.size+1+1,0,none⟩),.pointer (some ⟨w.heap.size,0,none⟩),.pointer (some ⟨w.heap.size+1,0,none⟩)]) (by simp) (by simp[go_sem]) ?_;refine(HEnd.out wr w4 cis1 cs1 vs1 ss1 s1 b ok HJ.out HS1.out.2.2.1 HHh.out HB4.out).mono ?_;rintro e u' w5 ⟨rfl,rfl,hq⟩;exact⟨_,results_none rfl _ _ _,rfl,hq⟩
  |got i k m r=>
   rw[hh]at HH;simp only at HH;have HHc:=hide' HH;have HHh:=hide' hh;clear HH hh;go_wp2_with fail
   go_at_call 94;refine HHc.out.mono ?_;rintro e w4 ⟨v,u',hv,h7,hul,hS',rfl,hj4,hk4,hl4⟩;have hol:=(List.getElem?_eq_some_iff.1 HS1.out.2.2.1).1;have hol2:=(List.getElem?_eq_some_iff.1 HS1.out.1).1;have hL4:=HJ.out.to_ (tgt':=lisJ sv pt win o (anJ cs1 i k m r,ss1.set o {s1 with held:=s1.held.drop r.used})) HM.out hk4 hl4 hj4 ⟨u',List.getElem?_set_self hol2,hS'⟩ HJ.out.len (HJ.out.bd.an i k m o r HS1.out.2.2.1 _) rfl;have hL5:=hL4.set HM.out true;have hRO:=readOn_jun hL5.jun hv hT hL5.bd;have z2:=blkCell hL4.b2 0;have g2:=blkFree hL4.b2 0;have m2:=blkLt hL4.b2;have x0:=blkCell hL5.b0 0;have lx:=blkLt hL5.b0;simp at z2 x0;have HRO:=hide' hRO;have HL5:=hide' (And.intro hL5 (And.intro hv (List.getElem?_set_self hol2 (a:=u'))))
   have HSS:=hide' (And.intro hS' hol2);have HFin:Hid (∀(w6:World) (v':CliV) (vs':List SrvV),JunQ w6 X sv pt win g sc cv (cis1.set i v') (runJ sv pt win i (anJ cs1 i k m r,ss1.set o {s1 with held:=s1.held.drop r.used})).1 vs' (runJ sv pt win i (anJ cs1 i k m r,ss1.set o {s1 with held:=s1.held.drop r.used})).2→BdJ win T (runJ sv pt win i (anJ cs1 i k m r,ss1.set o {s1 with held:=s1.held.drop r.used})).1 (runJ sv pt win i (anJ cs1 i k m r,ss1.set o {s1 with held:=s1.held.drop r.used})).2→Chg (footQ X cv cis1 (vs1.set o u')) (w4.setCell ⟨w.heap.size+1+1,0,none⟩ (.bool true)) w6→Later (w4.setCell ⟨w.heap.size+1+1,0,none⟩ (.bool true)) (footQ X cv cis1 (vs1.set o u')) (footQ X cv (cis1.set i v') vs')→LisAt w6 X sv pt win g sc cv S o T n0 M w (lisJ sv pt win o (cs,ss)) (cis1.set i v') (runJ sv pt win i (anJ cs1 i k m r,ss1.set o {s1 with held:=s1.held.drop r.used})).1 vs' (runJ sv pt win i (anJ cs1 i k m r,ss1.set o {s1 with held:=s1.held.drop r.used})).2 true∧heldLenS w6 S<heldLenS wr S):=fun w6 v' vs' a1 a2 a3 a4=>by
    obtain⟨u6,hu6,hS6⟩:=HL5.out.1.jun.sameS a1 a3 HL5.out.2.2;have hS6':u6.S=S:=hS6.trans HSS.out.1;have htg:lisJ sv pt win o (runJ sv pt win i (anJ cs1 i k m r,ss1.set o {s1 with held:=s1.held.drop r.used}))=lisJ sv pt win o (cs,ss):=by
     rw[←HJ.out.tg];exact(lisJ_got (st:=(cs1,ss1)) HS1.out.2.2.1 HHh.out).symm
    refine⟨HL5.out.1.to_ HM.out a3 a4 a1 ⟨u6,hu6,hS6'⟩ (by rw[List.length_set];exact HJ.out.len) a2 htg,?_⟩;obtain⟨s',b1,b2,_,b4⟩:=got_held (sv:=sv) (pt:=pt) (win:=win) (st:=(cs1,ss1)) HS1.out.2.2.1 HHh.out;have hl6:=(a1.srv.ok o u6 s' hu6 b1).inb.len;rw[hS6']at hl6;rw[hl6,HS1.out.2.2.2];exact b4
   obtain⟨C,hC⟩:∃C,v.k.C=C:=⟨_,rfl⟩
   rw[hC]at HRO⊢;clear hv h7 hul hS' hj4 hk4 hl4 hol hol2 hL4 hL5 hRO y0 y1 y2 l0 l1 l2 f2 hC HHc;go_wp2_with fail
   generalize w4.setCell ⟨w.heap.size+1+1,0,none⟩ (.bool true)=w5 at*;go_at_call 59;refine HRO.out.mono ?_;rintro e w6 ⟨rfl,v',vs',a0,a1,a2,a3,a4⟩;have HF:=hide' (HFin.out w6 v' vs' a1 a2 a3 a4);clear a0 a1 a2 a3 a4;go_wp2;go_roundw;case rel=>exact⟨_,_,_,_,_,HF.out.1⟩
   case measure=>exact HF.out.2
set_option maxHeartbeats 1000000
set_option maxRecDepth 100000
variable {o T:Nat}{u:SrvV}{su s':SrvQ}
section
variable {w:World}{X sv pt win g sc:Nat}{cv:Value}{cis:List CliV}{cs:List CliQ}{vs:List SrvV}{ss:List SrvQ}
theorem JunQ.srvAt (h:JunQ w X sv pt win g sc cv cis cs vs ss)(ho:o<sv):∃u su,vs[o]?=some u∧ss[o]?=some su∧w.cell? ⟨g,o,none⟩=some (.pointer (some ⟨u.S,0,none⟩))∧w.cell? ⟨u.S,0,none⟩=some (.bool (!su.up))∧u.S<w.heap.size∧g<w.heap.size:=by
 obtain⟨u,su,hu,hsu,hok⟩:=h.srv.get (j:=o) (by rw[h.len];exact ho);obtain⟨Zg,g1,g2⟩:=h.gb;obtain⟨iv,iu,ip,ic,hb⟩:=hok.blk;exact⟨u,su,hu,hsu,(blkCell g1 o).trans (g2 o u hu),(svCells hb).1,blkLt hb,blkLt g1⟩
theorem standing_yes (h:JunQ w X sv pt win g sc cv cis cs vs ss)(hu:vs[o]?=some u)(hsu:ss[o]?=some su):Calls Tryz.prog 62 #[.pointer (some ⟨X,0,none⟩),.int .i64 (o:Int)] w fun e w'=>e= .returned (if su.up=true then .tuple #[.pointer (some ⟨u.S,0,none⟩),.int .i64 0]else .tuple #[.pointer none,.int .i64 2])∧w'=w:=by
 have ho:o<sv:=by rw[←h.len];exact(List.getElem?_eq_some_iff.1 hu).1
 obtain⟨u',su',e1,e2,cg,cu,hl1,hl2⟩:=h.srvAt ho;rw[hu]at e1;cases e1;rw[hsu]at e2;cases e2;have c4:=(juCells h.blk).2.2.2.2.1;have hlt:=blkLt h.blk;have HN:=hide' (at_yes 60 (.inr rfl) g sv sc o u.S w (by have:=h.s4;omega) ho cg hl2);clear h hu hsu;cases hup:su.up with
 |true=>
  rw[hup]at cu;simp only[Bool.not_true]at cu;clear hup;go_enter Tryz.func62,Tryz.ntmps62;go_wp2_with fail
  go_at_call 60;refine HN.out.mono ?_;rintro e w1 ⟨rfl,hw1⟩;subst hw1;go_wp2;go_ret2;exact⟨rfl,rfl⟩
 |false=>
  rw[hup]at cu;simp only[Bool.not_false]at cu;clear hup;go_enter Tryz.func62,Tryz.ntmps62;go_wp2_with fail
  go_at_call 60;refine HN.out.mono ?_;rintro e w1 ⟨rfl,hw1⟩;subst hw1;go_wp2;go_ret2;exact⟨rfl,rfl⟩
theorem JunQ.srvPut {W':World}(h:JunQ w X sv pt win g sc cv cis cs vs ss){u':SrvV}(hu:vs[o]?=some u)(k:Chg u.foot w W')(hn:SrvAt W' u' s')(hl:Later w u.foot u'.foot)(hS:u'.S=u.S)(hL:u'.l=u.l):JunQ W' X sv pt win g sc cv cis cs (vs.set o u') (ss.set o s')∧Chg (footQ X cv cis vs) w W'∧Later w (footQ X cv cis vs) (footQ X cv cis (vs.set o u')):=by
 have hol:=(List.getElem?_eq_some_iff.1 hu).1;have huf:∀b∈u.foot,b∈feetS vs:=fun b hb=>mem_feetS.2 ⟨o,u,hu,hb⟩
 obtain⟨nx1,nx2,nx3⟩:=h.nX;obtain⟨Zg,g1,g2⟩:=h.gb;obtain⟨r1,r2⟩:=h.srv.step hu k hn hl;refine⟨⟨k.keep h.blk (fun e=>nx2 (huf X e)),⟨Zg,k.keep g1 (fun e=>nx3 (huf g e)),fun j z hz=>?_⟩,by rw[List.length_set];exact h.len,h.s1,h.s4,h.sc_,h.pt_,h.w6,ownsRow_other h.row (fun gg hg=>?_),h.cl,h.c4,fun j z y hz hy=>?_,h.cap,r1,fun j z hz b hb hm'=>?_,fun o' z hz=>?_,h.wl⟩,k.more (fun b hb=>by unfold footQ;exact List.mem_cons_of_mem _ (List.mem_append.2 (.inr (List.mem_append.2 (.inr (huf b hb)))))),fun b hb=>?_⟩
 ·rw[List.getElem?_set]at hz;split at hz
  ·rename_i e;subst e;simp at hz;subst hz;rw[hS];exact g2 o u hu
  ·exact g2 j z hz
 ·obtain⟨b1,b2,b3⟩:=h.nRow hg;exact k.block gg b1 (fun e=>b3 (huf gg e))
 ·exact(h.cli j z y hz hy).keep (fun b hb=>k.block b (civ_old h hz b hb) (fun e=>h.ap j z hz b hb (huf b e)))
 ·rcases r2 b hm' with h3|h3
  ·exact h.ap j z hz b hb h3
  ·have:=civ_old h hz b hb;omega
 ·rw[List.getElem?_set]at hz;split at hz
  ·rename_i e;subst e;simp at hz;subst hz;rw[hL];exact h.mr o u hu
  ·exact h.mr o' z hz
 ·unfold footQ at hb⊢;rcases List.mem_cons.1 hb with e|hb
  ·exact .inl (by rw[e];simp)
  rcases List.mem_append.1 hb with hb|hb
  ·exact .inl (List.mem_cons_of_mem _ (List.mem_append.2 (.inl hb)))
  rcases List.mem_append.1 hb with hb|hb
  ·exact .inl (List.mem_cons_of_mem _ (List.mem_append.2 (.inr (List.mem_append.2 (.inl hb)))))
  ·rcases r2 b hb with h3|h3
   ·exact .inl (List.mem_cons_of_mem _ (List.mem_append.2 (.inr (List.mem_append.2 (.inr h3)))))
   ·exact .inr h3
theorem BdJ.srvSet {win:Nat}{cs:List CliQ}{ss:List SrvQ}(h:BdJ win T cs ss){s:SrvQ}(hs:ss[o]?=some s)(h1:s'.next=s.next)(h2:s'.sent=s.sent):BdJ win T cs (ss.set o s'):=
 ⟨h.told,h.wl,fun u hu=>by
  rcases List.mem_or_eq_of_mem_set hu with e|e
  ·exact h.srv u e
  ·rw[e,h1,h2];exact h.srv s (List.mem_of_getElem? hs)⟩
def answeredJ (sv pt win o:Nat)(piece:List UInt8)(st:List CliQ×List SrvQ):List CliQ×List SrvQ:=match st.2[o]?with
 |none=>st
 |some s=>listenJ sv pt win o (st.1,st.2.set o {s with held:=s.held++piece})
theorem answer_down (h:JunQ w X sv pt win g sc cv cis cs vs ss)(hsu:ss[o]?=some su)(piece:ByteArray)(hup:su.up=false):Calls Tryz.prog 32 #[.pointer (some ⟨X,0,none⟩),.int .i64 (o:Int),.string piece] w fun e w'=>e= .returned (.int .i64 2)∧w'=w:=by
 obtain⟨u,hu⟩:∃u,vs[o]?=some u:=⟨_,List.getElem?_eq_getElem (by rw[h.srv.len];exact(List.getElem?_eq_some_iff.1 hsu).1)⟩
 have HN:=standing_yes h hu hsu;rw[if_neg (by simp[hup])]at HN;have HN:=hide' HN;clear h hup;go_enter Tryz.func32,Tryz.ntmps32;go_wp2_with fail
 go_at_call 62;refine HN.out.mono ?_;rintro e w1 ⟨rfl,hw1⟩;subst hw1;go_wp2;go_ret;exact⟨rfl,rfl⟩
theorem answer_up (h:JunQ w X sv pt win g sc cv cis cs vs ss)(hsu:ss[o]?=some su)(piece:ByteArray)(hup:su.up=true)(hT:T+5000≤100000000000)(hb:BdJ win T cs ss)(h2:2*su.held.length+piece.size≤140737488355328):Calls Tryz.prog 32 #[.pointer (some ⟨X,0,none⟩),.int .i64 (o:Int),.string piece] w fun e w'=>e= .returned (.int .i64 0)∧LisTo w w' X sv pt win g sc cv T cis.length (footQ X cv cis vs) (answeredJ sv pt win o piece.data.toList (cs,ss)):=by
 obtain⟨u,hu⟩:∃u,vs[o]?=some u:=⟨_,List.getElem?_eq_getElem (by rw[h.srv.len];exact(List.getElem?_eq_some_iff.1 hsu).1)⟩
 have hol:=(List.getElem?_eq_some_iff.1 hu).1;have hol2:=(List.getElem?_eq_some_iff.1 hsu).1;have hsv:=h.srv.ok o u su hu hsu;have HN:=standing_yes h hu hsu;rw[if_pos hup]at HN;have HN:=hide' HN;have HTk:=hide' (sTake_any u.S _ u.hb su.held piece w hsv.inb h2);have HLs:Hid (∀w1,SInTo w w1 u.S u.hb ⟨!su.up,su.next,u.m,u.bp,u.bv⟩ ⟨su.held++piece.data.toList,false,false⟩→Calls Tryz.prog 63 #[.pointer (some ⟨X,0,none⟩),.pointer (some ⟨u.S,0,none⟩)] w1 fun e w'=>e= .returned (.tuple #[])∧LisTo w w' X sv pt win g sc cv T cis.length (footQ X cv cis vs) (answeredJ sv pt win o piece.data.toList (cs,ss))):=fun w1 hto=>by
  obtain⟨⟨hb',hR,hF⟩,hTn⟩:=hto;obtain⟨n1,n2,n3,n4,n5⟩:=hsv.nS;have k:Chg (u.S::u.hb.toList) w w1:=⟨hTn.os,hTn.tape,hTn.output,hTn.size,fun b hb hn=>hTn.block b hb (fun e=>hn (by simp[e])) (fun e=>hn (by simp[←e]))⟩
  have kf:Chg u.foot w w1:=k.more (fun b hb=>by simp[SrvV.foot]at hb⊢;rcases hb with e|e<;>simp[e]);have hnew:SrvAt w1 {u with hb:=hb'} {su with held:=su.held++piece.data.toList}:=by
   refine⟨hR,hsv.mp.other (k.block _ (hsv.old _ (by simp[SrvV.foot])) (fun hm=>?_)),hsv.bpv,hsv.row.other (fun b hb=>k.block b (hsv.old b (by simp[SrvV.foot,hb])) (fun hm=>?_)),hsv.nx,fun b hb hb2=>?_⟩
   ·simp at hm;rcases hm with e|e
    ·exact n1 e.symm
    ·exact n4 e
   ·simp at hm;rcases hm with e|e
    ·exact n3 (by rw[hb,e])
    ·exact hsv.ab b hb e
   ·simp only at hb hb2;rcases hF with e|e|⟨j,e,hj⟩
    ·exact hsv.ab b hb (by rw[←e];exact hb2)
    ·rw[e]at hb2;cases hb2
    ·rw[e]at hb2;cases hb2;have:=hsv.old b (by simp[SrvV.foot,hb]);omega
  have hlu:Later w u.foot (SrvV.foot {u with hb:=hb'}):=fun b hb=>by
   unfold SrvV.foot at hb⊢;simp at hb⊢;rcases hb with e|e|e|e
   ·simp[e]
   ·simp[e]
   ·rcases hF with e2|e2|⟨j,e2,hj⟩
    ·rw[e2]at e;simp[e]
    ·rw[e2]at e;cases e
    ·rw[e2]at e;cases e;exact .inr hj
   ·simp[e]
  obtain⟨r1,r2,r3⟩:=h.srvPut hu kf hnew hlu rfl rfl;have hls:=listen_jun r1 (List.getElem?_set_self hol) (List.getElem?_set_self hol2) hT (hb.srvSet hsu rfl rfl);refine hls.mono ?_;rintro e w' ⟨rfl,cis',vs',a1,a2,a3,a4,a5⟩;have e:answeredJ sv pt win o piece.data.toList (cs,ss)=listenJ sv pt win o (cs,ss.set o {su with held:=su.held++piece.data.toList}):=by unfold answeredJ;simp only[hsu]
  rw[e];exact⟨rfl,cis',vs',a1,a2,a3,r2.trans a4 r3,r3.trans a5 r2.size⟩
 obtain⟨iv,iu,ip,ic,hbk⟩:=hsv.blk;have hlt:=blkLt hbk;generalize u.S=S at*;clear h hu hsu hup hb hol hol2 hsv hbk;go_enter Tryz.func32,Tryz.ntmps32;go_wp2_with fail
 go_at_call 62;refine HN.out.mono ?_;rintro e w1 ⟨rfl,hw1⟩;subst hw1;go_wp2_with fail
 go_at_call 58;refine HTk.out.mono ?_;rintro e w2 ⟨rfl,hto⟩;have HR2:=hide' (HLs.out w2 hto);clear hto;go_wp2_with fail
 go_at_call 63;refine HR2.out.mono ?_;rintro e w3 ⟨rfl,hfin⟩;have HF:=hide' hfin;clear hfin;go_wp2;go_ret;exact⟨rfl,HF.out⟩
theorem down_down (h:JunQ w X sv pt win g sc cv cis cs vs ss)(hsu:ss[o]?=some su)(hup:su.up=false):Calls Tryz.prog 33 #[.pointer (some ⟨X,0,none⟩),.int .i64 (o:Int)] w fun e w'=>e= .returned (.int .i64 2)∧w'=w:=by
 obtain⟨u,hu⟩:∃u,vs[o]?=some u:=⟨_,List.getElem?_eq_getElem (by rw[h.srv.len];exact(List.getElem?_eq_some_iff.1 hsu).1)⟩
 have HN:=standing_yes h hu hsu;rw[if_neg (by simp[hup])]at HN;have HN:=hide' HN;clear h hup;go_enter Tryz.func33,Tryz.ntmps33;go_wp2_with fail
 go_at_call 62;refine HN.out.mono ?_;rintro e w1 ⟨rfl,hw1⟩;subst hw1;go_wp2;go_ret;exact⟨rfl,rfl⟩
theorem down_up (h:JunQ w X sv pt win g sc cv cis cs vs ss)(hsu:ss[o]?=some su)(hup:su.up=true)(hT:T+5000≤100000000000)(hb:BdJ win T cs ss):Calls Tryz.prog 33 #[.pointer (some ⟨X,0,none⟩),.int .i64 (o:Int)] w fun e w'=>e= .returned (.int .i64 0)∧LisTo w w' X sv pt win g sc cv T cis.length (footQ X cv cis vs) (fallJ sv pt win o (cs,ss)):=by
 obtain⟨u,hu⟩:∃u,vs[o]?=some u:=⟨_,List.getElem?_eq_getElem (by rw[h.srv.len];exact(List.getElem?_eq_some_iff.1 hsu).1)⟩
 have HN:=standing_yes h hu hsu;rw[if_pos hup]at HN;have HN:=hide' HN;have HF:=hide' (fall_jun h hu hsu hT hb);generalize u.S=S at*;clear h hu hsu hup hb;go_enter Tryz.func33,Tryz.ntmps33;go_wp2_with fail
 go_at_call 62;refine HN.out.mono ?_;rintro e w1 ⟨rfl,hw1⟩;subst hw1;go_wp2_with fail
 go_at_call 64;refine HF.out.mono ?_;rintro e w2 ⟨rfl,hfin⟩;have HF2:=hide' hfin;clear hfin;go_wp2;go_ret;exact⟨rfl,HF2.out⟩
def uppedJ (o:Nat)(ss:List SrvQ):List SrvQ:=match ss[o]?with
 |none=>ss
 |some s=>ss.set o {s with up:=true}
theorem up_up (h:JunQ w X sv pt win g sc cv cis cs vs ss)(hsu:ss[o]?=some su)(hup:su.up=true):Calls Tryz.prog 34 #[.pointer (some ⟨X,0,none⟩),.int .i64 (o:Int)] w fun e w'=>e= .returned (.int .i64 3)∧w'=w:=by
 obtain⟨u,hu⟩:∃u,vs[o]?=some u:=⟨_,List.getElem?_eq_getElem (by rw[h.srv.len];exact(List.getElem?_eq_some_iff.1 hsu).1)⟩
 have ho:o<sv:=by rw[←h.len];exact(List.getElem?_eq_some_iff.1 hu).1
 obtain⟨u',su',e1,e2,cg,cu,hl1,hl2⟩:=h.srvAt ho;rw[hu]at e1;cases e1;rw[hsu]at e2;cases e2;rw[hup]at cu;simp only[Bool.not_true]at cu;have c4:=(juCells h.blk).2.2.2.2.1;have hlt:=blkLt h.blk;have HN:=hide' (at_yes 60 (.inr rfl) g sv sc o u.S w (by have:=h.s4;omega) ho cg hl2);clear h hu hsu hup;go_enter Tryz.func34,Tryz.ntmps34;go_wp2_with fail
 go_at_call 60;refine HN.out.mono ?_;rintro e w1 ⟨rfl,hw1⟩;subst hw1;go_wp2;go_ret;exact⟨rfl,rfl⟩
theorem up_down (h:JunQ w X sv pt win g sc cv cis cs vs ss)(hsu:ss[o]?=some su)(hup:su.up=false)(hb:BdJ win T cs ss):Calls Tryz.prog 34 #[.pointer (some ⟨X,0,none⟩),.int .i64 (o:Int)] w fun e w'=>e= .returned (.int .i64 0)∧LisTo w w' X sv pt win g sc cv T cis.length (footQ X cv cis vs) (cs,uppedJ o ss):=by
 obtain⟨u,hu⟩:∃u,vs[o]?=some u:=⟨_,List.getElem?_eq_getElem (by rw[h.srv.len];exact(List.getElem?_eq_some_iff.1 hsu).1)⟩
 have ho:o<sv:=by rw[←h.len];exact(List.getElem?_eq_some_iff.1 hu).1
 obtain⟨u',su',e1,e2,cg,cu,hl1,hl2⟩:=h.srvAt ho;rw[hu]at e1;cases e1;rw[hsu]at e2;cases e2;rw[hup]at cu;simp only[Bool.not_false]at cu;have c4:=(juCells h.blk).2.2.2.2.1;have hlt:=blkLt h.blk;have HN:=hide' (at_yes 60 (.inr rfl) g sv sc o u.S w (by have:=h.s4;omega) ho cg hl2);have hsv:=h.srv.ok o u su hu hsu;obtain⟨⟨iv,iu,hD,HH,hz⟩,hne⟩:=hsv.inb;have fr:=blkFree hD 0;have HFin:Hid (LisTo w (w.setCell ⟨u.S,0,none⟩ (.bool false)) X sv pt win g sc cv T cis.length (footQ X cv cis vs) (cs,uppedJ o ss)):=by
  have k:Chg [u.S] w (w.setCell ⟨u.S,0,none⟩ (.bool false)):=(Chg.refl _ w).set (.inl (by simp)) _;obtain⟨n1,n2,n3,n4,n5⟩:=hsv.nS;have hD2:(w.setCell ⟨u.S,0,none⟩ (.bool false)).heap[u.S]?=some (svP ⟨false,su.next,u.m,u.bp,u.bv⟩ iv iu false false):=(blkSet (i:=0) hD _).trans rfl;have hnew:SrvAt (w.setCell ⟨u.S,0,none⟩ (.bool false)) u {su with up:=true}:=by
   refine⟨⟨⟨iv,iu,hD2,HH.other (fun b hb=>k.block b (hsv.old b (by simp[SrvV.foot,hb])) (by simp;exact fun e=>n2 (by rw[hb,e]))),hz⟩,hne⟩,hsv.mp.other (k.block _ hsv.mp.lt (by simp;exact fun e=>n1 e.symm)),hsv.bpv,hsv.row.other (fun b hb=>k.block b (hsv.old b (by simp[SrvV.foot,hb])) (by simp;exact fun e=>n3 (by rw[hb,e]))),hsv.nx,hsv.ab⟩
  obtain⟨r1,r2,r3⟩:=h.srvPut hu (k.more (fun b hb=>by simp at hb;rw[hb];simp[SrvV.foot])) hnew (Later.refl _ _) rfl rfl;have e:uppedJ o ss=ss.set o {su with up:=true}:=by unfold uppedJ;rw[hsu]
  exact⟨cis,_,by simp only[e];exact r1,rfl,by simp only[e];exact hb.srvSet hsu rfl rfl,r2,r3⟩
 generalize u.S=S at*;clear h hu hsu hup hsv hD HH hz hne hb;go_enter Tryz.func34,Tryz.ntmps34;go_wp2_with fail
 go_at_call 60;refine HN.out.mono ?_;rintro e w1 ⟨rfl,hw1⟩;subst hw1;go_wp2;go_ret;exact⟨rfl,HFin.out⟩
end
end Go.Proofs.YtlonjggfnleolaaGreatDoor
