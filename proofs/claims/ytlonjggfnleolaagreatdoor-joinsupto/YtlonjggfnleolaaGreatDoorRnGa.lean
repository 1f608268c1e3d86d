import Derived.Test.YtlonjggfnleolaaGreatDoorRnF
namespace Go.Proofs.YtlonjggfnleolaaGreatDoor
open Go.RowKit Go.Shelf
set_option linter.unusedVariables false
variable {a b:List (Nat×Nat)}{s:CliQ}{x:QS}{xs:List QS}{W w1 w2 w3:World}{st:St}{p:PS}
theorem freeJ_perm {nx:Nat}{a b:List Nat}(h:a.Perm b)(hl:a.length<65536):freeJ nx a=freeJ nx b:=by
 obtain⟨h1,h2,h3⟩:=freeJ_spec nx b (by rw[←h.length_eq];exact hl);exact freeJ_eq nx a hl _ (fun hm=>h2 (h.mem_iff.1 hm)) (fun i hi=>h.mem_iff.2 (h3 i hi))
theorem idsAt_perm {o:Nat}(h:a.Perm b):(idsAt o a).Perm (idsAt o b):=(h.filter _).map _
theorem sendOne_perm {sv pt:Nat}{k:Int}{val:ByteArray}(h:a.Perm b)(hl:a.length<65536)(ss:List SrvQ)(key:ByteArray):sendOne sv pt k val a ss key=sendOne sv pt k val b ss key:=by
 unfold sendOne;have hi:=idsAt_len (ownerN sv pt key) a;have e:∀nx,freeJ nx (idsAt (ownerN sv pt key) a)=freeJ nx (idsAt (ownerN sv pt key) b):=fun nx=>freeJ_perm (idsAt_perm h) (by omega)
 simp only[e]
theorem opJ_at {cs:List CliQ}{i:Nat}(hs:cs[i]?=some s):(opJ cs).Perm (exAt cs i++opQs s.qs):=by
 have e:opJ cs=opJ (cs.take i)++(opQs s.qs++opJ (cs.drop (i+1))):=by
  conv=>lhs;rw[split_at hs]
  unfold opJ;rw[List.flatMap_append,List.flatMap_cons]
 rw[e];unfold exAt;rw[List.append_assoc];exact List.Perm.append_left _ List.perm_append_comm
theorem tellQs_step (h:s.qs=x::xs)(hn:x.n=0):tellQs ⟨s.d,s.st,xs,s.told++(toldB s.d x).data.toList⟩=tellQs s:=by
 unfold tellQs;rw[h];conv=>rhs;unfold tellQ;rw[if_pos hn]
theorem tellQs_nil (h:s.qs=[]):tellQs s=s:=by
 obtain⟨d,st,qs,told⟩:=s;simp only at h;subst h;rfl
theorem tellQs_stop (h:s.qs=x::xs)(hn:x.n≠0):tellQs s=s:=by
 obtain⟨d,st,qs,told⟩:=s;simp only at h;subst h;unfold tellQs tellQ;simp[hn]
theorem BdQ.told1 {win T E:Nat}{ss:List SrvQ}(h:BdQ win T E s ss)(hd:s.d=1∨s.d=2∨s.d=3)(hw:s.qs=x::xs)(ok:QSOk s.d x):BdQ win T E ⟨s.d,s.st,xs,s.told++(toldB s.d x).data.toList⟩ ss:=by
 have h1:=h.told;have h2:=h.wl;rw[hw]at h1 h2;simp only[List.length_cons]at h1 h2;have h3:(toldB s.d x).data.toList.length≤1000:=by rw[Array.length_toList];exact toldB_size hd ok
 refine⟨?_,?_,h.srv⟩
 ·simp only[List.length_append];omega
 ·simp only;omega
theorem RCliQ.meas {v:RCliV}(h:RCliQ W v s):rMeas W v.K v.Y=2*s.st.held.length+s.qs.length:=by
 have c1:W.cell? ⟨v.Y,1,none⟩=some (.string (mkB s.st.held)):=blkCell h.rd.at_ 1;have c2:W.cell? ⟨v.K,2,none⟩=some v.wv:=blkCell h.blk 2;obtain⟨a,c,hv⟩:=h.row.len;rw[List.length_map,h.len]at hv;unfold rMeas;rw[c1,c2,hv];simp only
 rw[mkB_size]
structure RSrvQ (w wr:World)(X sv pt win:Nat)(cv rv:Value)(cis:List RCliV)(cs:List CliQ)(vs:List Nat)(i K Y T E:Nat)(d:Int)(v:RCliV)(s:CliQ)(ss:List SrvQ)(tg:CliQ×List SrvQ):Prop where
 jun:RJunQ wr X sv pt win cv rv (cis.set i v) (cs.set i s) vs ss
 K_:v.K=K
 Y_:v.Y=Y
 chg:Chg (footRJ X cv cis vs) w wr
 lat:Later w (footRJ X cv cis vs) (footRJ X cv (cis.set i v) vs)
 tgt:servQ sv pt win (exAt cs i) (tellQs s) ss=tg
 bd:BdQ win T E s ss
 d_:s.d=d
section
variable {w wr w':World}{X sv pt win:Nat}{cv rv:Value}{cis:List RCliV}{cs:List CliQ}{vs:List Nat}{i K Y T E:Nat}{d:Int}{v v':RCliV}{s s':CliQ}{ss:List SrvQ}{tg:CliQ×List SrvQ}
theorem RSrvQ.cli (h:RSrvQ w wr X sv pt win cv rv cis cs vs i K Y T E d v s ss tg)(hi:i<cis.length):RCliQ wr v s:=by
 have hcl:=h.jun.cl;rw[List.length_set,List.length_set]at hcl;exact h.jun.cli i v s (by rw[List.getElem?_set_self hi]) (by rw[List.getElem?_set_self (by omega)])
theorem RSrvQ.cliTo (h:RSrvQ w wr X sv pt win cv rv cis cs vs i K Y T E d v s ss tg)(hi:i<cis.length)(hn:RCliQ w' v' s')(hK:v'.K=v.K)(hY:v'.Y=v.Y)(k:Chg v.foot wr w')(l:Later wr v.foot v'.foot)(ht:servQ sv pt win (exAt cs i) (tellQs s') ss=tg)(hb:BdQ win T E s' ss)(hd:s'.d=d):RSrvQ w w' X sv pt win cv rv cis cs vs i K Y T E d v' s' ss tg:=by
 obtain⟨a1,a3⟩:=h.jun.cliTo (i:=i) (v:=v) (v':=v') (s':=s') (by rw[List.getElem?_set_self hi]) k hn hK l hb.wl;rw[List.set_set]at a1 a3;rw[List.set_set]at a1;refine⟨a1,hK.trans h.K_,hY.trans h.Y_,h.chg.trans k (fun b hb=>?_),h.lat.trans a3 h.chg.size,ht,hb,hd⟩;exact h.lat b (mem_footRJ.2 (.inr (.inr (.inl ⟨i,v,by rw[List.getElem?_set_self hi],hb⟩))))
theorem RSrvQ.below (h:RSrvQ w wr X sv pt win cv rv cis cs vs i K Y T E d v s ss tg)(hb:Below wr.heap.size wr w'):RSrvQ w w' X sv pt win cv rv cis cs vs i K Y T E d v s ss tg:=
 ⟨h.jun.below hb,h.K_,h.Y_,h.chg.trans (Chg.of_below (M:=[]) hb) (fun b hb=>by cases hb),h.lat,h.tgt,h.bd,h.d_⟩
theorem RCliQ.turned {W':World}(h:RCliQ W v s)(hT:Turn v.Y W W')(hR:RefAt W' v.Y s.d st):RCliQ W' v {s with st:=st}∧Chg v.foot W W':=by
 have k:Chg [v.Y] W W':=⟨hT.os,hT.tape,hT.output,hT.size,fun b hb hn=>hT.block b hb (by simpa using hn)⟩
 have nY:∀{b T:Nat} {Z:Array Value},W.heap[b]?=some (.cells Z T (0,0))→T≠195→W'.heap[b]?=W.heap[b]?:=fun hb hT=>k.block _ (blkLt hb) (fun e=>by
  simp at e;have hr:=h.rd.at_;unfold refO at hr;rw[e,hr]at hb;simp at hb;exact hT hb.2.symm)
 have hb:=h.blk;refine⟨⟨(nY hb (by decide)).trans hb,hR,h.row.other (fun g hg=>by obtain⟨cur,hc⟩:=h.row.blk hg;exact nY hc (by decide)),h.len,fun j u x hu hx=>?_,h.nd,h.ok⟩,k.more (fun x hx=>by simp at hx;rw[hx];simp[RCliV.foot])⟩;have hq:=h.qu j u x hu hx;exact hq.keep k.size (fun b hb=>by obtain⟨Z,T,h1,h2⟩:=hq.kind b hb;exact nY h1 (by rcases h2 with e|e|e|e<;>(subst e;decide)))
theorem RSrvQ.next (h:RSrvQ w w1 X sv pt win cv rv cis cs vs i K Y T E d v s ss tg)(hi:i<cis.length)(hT:Turn Y w1 w2)(hR:RefAt w2 Y d st):RJunQ w2 X sv pt win cv rv (cis.set i v) (cs.set i {s with st:=st}) vs ss∧Chg v.foot w1 w2:=by
 have hok:=h.cli hi;rw[←h.Y_]at hT hR;rw[←h.d_]at hR;obtain⟨a1,a2⟩:=hok.turned hT hR;have:=(h.jun.cliTo (i:=i) (v:=v) (v':=v) (s':={s with st:=st}) (by rw[List.getElem?_set_self hi]) a2 a1 rfl (Later.refl _ _) h.bd.wl).1;rw[List.set_set,List.set_set]at this;exact⟨this,a2⟩
theorem RSrvQ.nextNone (h:RSrvQ w w1 X sv pt win cv rv cis cs vs i K Y T E d v s ss tg)(hi:i<cis.length)(hT:Turn Y w1 w2)(hR:RefAt w2 Y d s.st):RSrvQ w w2 X sv pt win cv rv cis cs vs i K Y T E d v s ss tg:=by
 have hok:=h.cli hi;rw[←h.Y_]at hT hR;rw[←h.d_]at hR;obtain⟨a1,a2⟩:=hok.turned hT hR;exact h.cliTo hi a1 rfl rfl a2 (Later.refl _ _) h.tgt h.bd h.d_
end
structure RMidQ (wb wr:World)(sv pt:Nat)(vs:List Nat)(ex:List (Nat×Nat))(ss:List SrvQ)(c:Cmd)(kv:Value)(lo M B j:Nat)(pv:Value)(bs:List Nat):Prop where
 chg:Chg vs wb wr
 srv:∀(o:Nat) (S:Nat) (s:SrvQ),vs[o]?=some S→(sendsK sv pt c.kind c.val ex ss (c.keys.take j)).1[o]?=some s→wr.heap[S]?=some (rsO s.up s.next (mkB s.held) s.sent)
 mb:wr.heap[M]?=some (cmdO c kv)
 wb_:wr.heap[B]?=some (rwO c kv pv)
 ky:KeysR wr lo kv c.keys
 row:wr.ownsRow 0 249 1 pv j (bs.map ptrV)
 pl:bs.length=j
 ok:∀(i b:Nat) (p:PS),bs[i]?=some b→(sendsK sv pt c.kind c.val ex ss (c.keys.take j)).2[i]?=some p→RPartQ wr b p
 nd:bs.Nodup
 geB:wb.heap.size≤B
 gep:∀g,pv.ownBlock=some g→wb.heap.size≤g
 geb:∀b∈bs,wb.heap.size≤b
section
variable {wb wr w3 wa:World}{X sv pt win:Nat}{cv rv:Value}{cis:List RCliV}{cs:List CliQ}{vs:List Nat}{ex:List (Nat×Nat)}{ss:List SrvQ}{c:Cmd}{kv:Value}{lo M B j P g2 cap2:Nat}{pv:Value}{bs:List Nat}{key:ByteArray}
theorem RMidQ.jun (h:RMidQ wb wr sv pt vs ex ss c kv lo M B j pv bs)(hj:RJunQ wb X sv pt win cv rv cis cs vs ss)(he:ex.length≤100)(h4:c.keys.length≤4):RJunQ wr X sv pt win cv rv cis cs vs (sendsK sv pt c.kind c.val ex ss (c.keys.take j)).1:=
 hj.srvs h.chg h.srv (sendsK_len _ _ _ _ _ _ _).1 (sendsK_behind sv pt c.kind c.val ex ss he hj.nx (c.keys.take j) (by rw[List.length_take];omega)).2.2
theorem keepS {wr:World}(hj:RJunQ wr X sv pt win cv rv cis cs vs ss)(k:Chg vs wr w3):∀Ts:List Nat,243∉Ts→KeepT Ts wr w3:=fun Ts h1=>KeepT.chg k (fun b T Z f hm hZ hT=>by
 obtain⟨s,hS0⟩:=hj.getS hm
 unfold rsO at hS0
 rw[hS0]at hZ
 simp at hZ
 obtain⟨_,rfl,_⟩:=hZ
 exact h1 hT)
theorem RMidQ.sent {ss':List SrvQ}(h:RMidQ wb wr sv pt vs ex ss c kv lo M B j pv bs)(hjr:RJunQ wr X sv pt win cv rv cis cs vs (sendsK sv pt c.kind c.val ex ss (c.keys.take j)).1)(hs:RSentQ wr w3 X sv pt win cv rv cis cs vs ss' p P):w3.heap[M]?=some (cmdO c kv)∧w3.heap[B]?=some (rwO c kv pv)∧KeysR w3 lo kv c.keys∧w3.ownsRow 0 249 1 pv j (bs.map ptrV):=by
 obtain⟨hP,hj3,_,k3⟩:=hs;have kT3:=keepS hjr k3;have hmb:=h.mb;have hwb:=h.wb_;unfold cmdO at hmb;unfold rwO at hwb;exact⟨((kT3 [36] (by simp)) _ _ _ _ hmb (by simp)).trans hmb,((kT3 [266] (by simp)) _ _ _ _ hwb (by simp)).trans hwb,h.ky.other (Nat.le_refl _) (fun b Z hZ _=>(kT3 [9] (by simp)) _ _ _ _ hZ (by simp)),(kT3 [249] (by simp)).row (by simp) h.row⟩
theorem RMidQ.start (hj:RJunQ w3 X sv pt win cv rv cis cs vs ss)(hk:KeysR w3 lo kv c.keys):RMidQ w3 ((w3.alloc (cmdO c kv)).alloc (rwO c kv (.slice none 0 0))) sv pt vs ex ss c kv lo w3.heap.size (w3.heap.size+1) 0 (.slice none 0 0) []:=by
 have hb:Below w3.heap.size w3 ((w3.alloc (cmdO c kv)).alloc (rwO c kv (.slice none 0 0))):=((Below.refl _ _).alloc (Nat.le_refl _) _).alloc (by simp) _;refine⟨Chg.of_below hb,fun o S s hS hs=>?_,hs_alloc (blkNew w3 _) _,hs_new (by simp),hk.other (Nat.le_refl _) (fun b Z hZ _=>hb.block b (blkLt hZ)),World.ownsRow_nil _ _ _ _,rfl,fun i b p hb=>(by simp at hb),List.nodup_nil,Nat.le_succ _,fun g hg=>(by cases hg),fun b hb=>(by cases hb)⟩;rw[List.take_zero]at hs;have h1:=hj.srv o S s hS hs;exact(hb.block S (blkLt h1)).trans h1
theorem RMidQ.more (h:RMidQ wb wr sv pt vs ex ss c kv lo M B j pv bs)(hk:c.keys[j]?=some key)(hjr:RJunQ wr X sv pt win cv rv cis cs vs (sendsK sv pt c.kind c.val ex ss (c.keys.take j)).1)(hp:(sendsK sv pt c.kind c.val ex ss (c.keys.take (j+1))).2=(sendsK sv pt c.kind c.val ex ss (c.keys.take j)).2++[p])(hlen:(sendsK sv pt c.kind c.val ex ss (c.keys.take j)).2.length=j)(hs:RSentQ wr w3 X sv pt win cv rv cis cs vs (sendsK sv pt c.kind c.val ex ss (c.keys.take (j+1))).1 p P)(hown:wa.ownsRow 0 249 1 (.slice (some ⟨g2,0,none⟩) (j+1) cap2) (j+1) (bs.map ptrV++[.pointer (some ⟨P,0,none⟩)]))(hgrow:(w3.alloc (.cells #[.pointer (some ⟨P,0,none⟩)] 249)).grownBy wa pv.ownBlock)(hat:pv.ownBlock=some g2∨g2=(w3.alloc (.cells #[.pointer (some ⟨P,0,none⟩)] 249)).heap.size):∃bs',RMidQ wb (wa.setCell ⟨B,6,none⟩ (.slice (some ⟨g2,0,none⟩) (j+1) cap2)) sv pt vs ex ss c kv lo M B (j+1) (.slice (some ⟨g2,0,none⟩) (j+1) cap2) bs':=by
 obtain⟨hP,hj3,hp3,k3⟩:=hs;have kT3:=keepS hjr k3;have b4:Below w3.heap.size w3 (w3.alloc (.cells #[.pointer (some ⟨P,0,none⟩)] 249)):=(Below.refl _ _).alloc (Nat.le_refl _) _;have sz3:=k3.size;have szr:=h.chg.size;have hwb:=h.wb_;unfold rwO at hwb;have hwb3:=((kT3 [266] (by simp)) _ _ _ _ hwb (by simp)).trans hwb;have hwb4:=(b4.block B (blkLt hwb3)).trans hwb3;have hrow3:w3.ownsRow 0 249 1 pv j (bs.map ptrV):=(kT3 [249] (by simp)).row (by simp) h.row;have nB:pv.ownBlock≠some B:=fun e=>by
  obtain⟨cur,hc⟩:=ownsRow_blk hrow3 e;rw[hwb3]at hc;cases hc
 have hwba:=(hgrow.block B (blkLt hwb4) (fun e=>nB e.symm)).trans hwb4;have ch4:Chg (B::pv.ownBlock.toList) (w3.alloc (.cells #[.pointer (some ⟨P,0,none⟩)] 249)) (wa.setCell ⟨B,6,none⟩ (.slice (some ⟨g2,0,none⟩) (j+1) cap2)):=((Chg.refl _ _).grown hgrow (fun b e=> .inl (by simp[e]))).set (.inl (by simp)) _;have kT4:∀Ts:List Nat,266∉Ts→249∉Ts→KeepT Ts w3 (wa.setCell ⟨B,6,none⟩ (.slice (some ⟨g2,0,none⟩) (j+1) cap2)):=fun Ts h1 h2=>(KeepT.below b4).trans (KeepT.chg ch4 (fun b T Z f hm hZ hT=>by
  rcases List.mem_cons.1 hm with e|e
  ·rw[e,hwb4]at hZ;simp at hZ;rw[←hZ.2.1]at hT;exact h1 hT
  ·obtain⟨cur,hc⟩:=ownsRow_blk hrow3 (mem_own e);have hc4:=(b4.block b (blkLt hc)).trans hc;rw[hc4]at hZ;simp at hZ;rw[←hZ.2.1]at hT;exact h2 hT))
 have kp:∀{b:Nat} {q:PS},RPartQ wr b q→RPartQ (wa.setCell ⟨B,6,none⟩ (.slice (some ⟨g2,0,none⟩) (j+1) cap2)) b q:=fun hq=>by
  obtain⟨Z,hZ⟩:=hq.blk;have h1:=(kT3 [253] (by simp)) _ _ _ _ hZ (by simp);exact hq.keep (((kT4 [253] (by simp) (by simp)) _ _ _ _ (h1.trans hZ) (by simp)).trans h1)
 have hmb:=h.mb;unfold cmdO at hmb;have hmb3:=((kT3 [36] (by simp)) _ _ _ _ hmb (by simp)).trans hmb;have hPn:P∉bs:=fun hm=>by
  obtain⟨i,hi,e⟩:=List.mem_iff_getElem.1 hm;have e1:bs[i]?=some P:=by rw[List.getElem?_eq_getElem hi,e]
  have hi2:i<(sendsK sv pt c.kind c.val ex ss (c.keys.take j)).2.length:=by rw[hlen,←h.pl];exact hi
  have:=h.ok i P _ e1 (List.getElem?_eq_getElem hi2);obtain⟨Z,hZ⟩:=this.blk;have:=blkLt hZ;omega
 refine⟨bs++[P],?_,fun q S s hS hs=>?_,((kT4 [36] (by simp) (by simp)) _ _ _ _ hmb3 (by simp)).trans hmb3,(blkSet (i:=6) hwba _).trans rfl,?_,?_,by simp[h.pl],fun i b q hb hq=>?_,?_,h.geB,fun g hg=>?_,fun b hb=>?_⟩
 ·have c1:Chg vs wb w3:=h.chg.trans k3 (Later.refl _ _);have c2:Chg vs wb (w3.alloc (.cells #[.pointer (some ⟨P,0,none⟩)] 249)):=c1.trans (Chg.of_below (M:=[]) b4) (fun b hb=>by cases hb);refine(c2.grown hgrow (fun b e=> .inr (h.gep b e))).set (.inr h.geB) _
 ·have h1:=hj3.srv q S s hS hs;have h2:=h1;unfold rsO at h2;exact((kT4 [243] (by simp) (by simp)) _ _ _ _ h2 (by simp)).trans h1
 ·exact h.ky.other (Nat.le_refl _) (fun b Z hZ _=>by
   have h1:=((kT3 [9] (by simp)) _ _ _ _ hZ (by simp)).trans hZ;exact(((kT4 [9] (by simp) (by simp)) _ _ _ _ h1 (by simp)).trans h1).trans hZ.symm)
 ·rw[List.map_append];exact ownsRow_other hown (fun gg hg=>by
   cases hg;refine Below.heap_setCell wa ⟨B,6,none⟩ _ g2 (fun e=>?_);obtain⟨cur,hc⟩:=ownsRow_blk hown rfl;rw[show g2=B from e,hwba]at hc;cases hc)
 ·rw[hp]at hq;by_cases hi:i<j
  ·rw[List.getElem?_append_left (by rw[h.pl];exact hi)]at hb;rw[List.getElem?_append_left (by rw[hlen];exact hi)]at hq;exact kp (h.ok i b q hb hq)
  ·have hij:i=j:=by
    have:=(List.getElem?_eq_some_iff.1 hb).1;simp[h.pl]at this;omega
   subst hij;rw[List.getElem?_append_right (by rw[h.pl];exact Nat.le_refl _),h.pl]at hb;rw[List.getElem?_append_right (by rw[hlen];exact Nat.le_refl _),hlen]at hq;simp at hb hq;subst hb hq;obtain⟨Z,hZ⟩:=hp3.blk;exact hp3.keep ((kT4 [253] (by simp) (by simp)) _ _ _ _ hZ (by simp))
 ·exact List.nodup_append.2 ⟨h.nd,by simp,fun a ha b hb e=>by simp at hb;exact hPn (by rw[←hb,←e];exact ha)⟩
 ·have e':g2=g:=by simpa [Value.ownBlock]using hg
  rcases hat with e|e
  ·exact h.gep g (by rw[e,e'])
  ·rw[World.size_alloc]at e;omega
 ·rcases List.mem_append.1 hb with e|e
  ·exact h.geb b e
  ·simp at e;rw[e];omega
end
theorem RQuAt.nd {W:World}{v:RQI}{x:QS}(h:RQuAt W v x)(hb:v.bs.Nodup):v.foot.Nodup:=by
 have h1:=h.blk;unfold rwO at h1;have tb:∀b∈v.bs,∃Z,W.heap[b]?=some (.cells Z 253 (0,0)):=fun b hb=>by
  obtain⟨i,p,_,_,hp⟩:=h.part hb;exact hp.blk
 have tp:∀b,v.pv.ownBlock=some b→∃Z,W.heap[b]?=some (.cells Z 249 (0,0)):=fun b hb=>ownsRow_blk h.row hb
 have tk:∀b,v.kb=some b→∃Z,W.heap[b]?=some (.cells Z 9 (0,0)):=fun b hb=>by
  rcases h.keys with⟨e,_⟩|⟨b',o,c,Z,e1,e2,e3,e4⟩
  ·rw[e]at hb;cases hb
  ·rw[e1]at hb;cases hb;exact⟨Z,e3⟩
 have ne:∀{b b' T T':Nat} {Z Z':Array Value},W.heap[b]?=some (.cells Z T (0,0))→W.heap[b']?=some (.cells Z' T' (0,0))→T≠T'→b≠b':=fun h2 h3 hT e=>by
  rw[e,h3]at h2;simp at h2;exact hT h2.2.symm
 have n2:(v.pv.ownBlock.toList++v.bs).Nodup:=by
  refine List.nodup_append.2 ⟨by cases v.pv.ownBlock<;>simp,hb,fun a ha b hb'=>?_⟩;obtain⟨Z,hZ⟩:=tp a (mem_own ha);obtain⟨Z',hZ'⟩:=tb b hb';exact ne hZ hZ' (by decide)
 have n3:(v.kb.toList++(v.pv.ownBlock.toList++v.bs)).Nodup:=by
  refine List.nodup_append.2 ⟨by cases v.kb<;>simp,n2,fun a ha b hb'=>?_⟩;obtain⟨Z,hZ⟩:=tk a (optMem ha);rcases List.mem_append.1 hb' with hb'|hb'
  ·obtain⟨Z',hZ'⟩:=tp b (mem_own hb');exact ne hZ hZ' (by decide)
  ·obtain⟨Z',hZ'⟩:=tb b hb';exact ne hZ hZ' (by decide)
 unfold RQI.foot;refine List.nodup_cons.2 ⟨fun hm=>?_,n3⟩;rcases List.mem_append.1 hm with hm|hm
 ·obtain⟨Z,hZ⟩:=tk _ (optMem hm);exact ne h1 hZ (by decide) rfl
 rcases List.mem_append.1 hm with hm|hm
 ·obtain⟨Z,hZ⟩:=tp _ (mem_own hm);exact ne h1 hZ (by decide) rfl
 ·obtain⟨Z,hZ⟩:=tb _ hm;exact ne h1 hZ (by decide) rfl
theorem RSrvQ.got {w w1 w2 wr wa:World}{X sv pt win:Nat}{cv rv:Value}{cis:List RCliV}{cs:List CliQ}{vs:List Nat}{i K Y T E:Nat}{d:Int}{v:RCliV}{s:CliQ}{ss:List SrvQ}{tg:CliQ×List SrvQ}(h:RSrvQ w w1 X sv pt win cv rv cis cs vs i K Y T E d v s ss tg)(hi:i<cis.length)(hlw:s.qs.length<win)(hst:tellQs s=s){x:StepR}(hx:readR s.d s.st.held=some x)(hT:Turn Y w1 w2)(hR:RefAt w2 Y d (afterS s.st x)){kv:Value}{M B:Nat}{pv:Value}{bs:List Nat}(he:(exAt cs i++opQs s.qs).length≤100)(hm:RMidQ w2 wr sv pt vs (exAt cs i++opQs s.qs) ss x.c kv w1.heap.size M B x.c.keys.length pv bs){va:Option Addr}{vc:Nat}(hrow:OffRow wa 263 (.slice va (v.ws.length+1) vc) (v.ws.map (fun u=>ptrV u.B)++[.pointer (some ⟨B,0,none⟩)]))(kwa:Chg v.wv.ownBlock.toList (wr.alloc (.cells #[.pointer (some ⟨B,0,none⟩)] 263)) wa)(hat:(Value.slice va (v.ws.length+1) vc).ownBlock=v.wv.ownBlock∨(Value.slice va (v.ws.length+1) vc).ownBlock=some (wr.alloc (.cells #[.pointer (some ⟨B,0,none⟩)] 263)).heap.size):∃v',RSrvQ w (wa.setCell ⟨K,2,none⟩ (.slice va (v.ws.length+1) vc)) X sv pt win cv rv cis cs vs i K Y T E d v' (gotQ sv pt (exAt cs i) s ss x).1 (gotQ sv pt (exAt cs i) s ss x).2 tg:=by
 obtain⟨h2,k12⟩:=h.next hi hT hR;have hcm:=read_wOk hx;have hk4:=hcm.cm.k4;have hr:=hm.jun h2 he hk4;have hok1:=hm.ok;have hsl:=(sendsK_len sv pt x.c.kind x.c.val (exAt cs i++opQs s.qs) ss x.c.keys).2;rw[List.take_length]at hr hok1;have hK:=h.K_;subst hK;have hcl:=h.jun.cl;rw[List.length_set,List.length_set]at hcl;have hcr:RCliQ wr v {s with st:=afterS s.st x}:=hr.cli i v _ (by rw[List.getElem?_set_self hi]) (by rw[List.getElem?_set_self (by omega)]);have b4:Below wr.heap.size wr (wr.alloc (.cells #[.pointer (some ⟨B,0,none⟩)] 263)):=(Below.refl _ _).alloc (Nat.le_refl _) _;have k4:Chg v.wv.ownBlock.toList wr wa:=(Chg.of_below (M:=v.wv.ownBlock.toList) b4).trans kwa (Later.refl _ _);have k5:Chg (v.K::v.wv.ownBlock.toList) wr (wa.setCell ⟨v.K,2,none⟩ (.slice va (v.ws.length+1) vc)):=(k4.more (fun b hb=>List.mem_cons_of_mem _ hb)).set (.inl (by simp)) _
 have hKb:=hcr.blk;unfold rcO at hKb;have kb5:∀{b T:Nat} {Z:Array Value},wr.heap[b]?=some (.cells Z T (0,0))→T≠247→T≠263→(wa.setCell ⟨v.K,2,none⟩ (.slice va (v.ws.length+1) vc)).heap[b]?=wr.heap[b]?:=fun hb h1 h2=>k5.block _ (blkLt hb) (fun hmm=>by
  rcases List.mem_cons.1 hmm with e|e
  ·rw[e,hKb]at hb;simp at hb;exact h1 hb.2.symm
  ·obtain⟨cur,hc⟩:=hcr.row.blk (mem_own e);rw[hc]at hb;simp at hb;exact h2 hb.2.symm)
 have hKa:wa.heap[v.K]?=some (rcO s.d v.Y v.wv s.told):=by
  refine(k4.block v.K (blkLt hKb) (fun hmm=>?_)).trans hcr.blk;obtain⟨cur,hc⟩:=hcr.row.blk (mem_own hmm);rw[hKb]at hc;simp at hc
 obtain⟨kb,hkb,hkl⟩:=KeysB.of hm.ky;have hqr:RQuAt wr ⟨B,kv,kb,pv,bs⟩ ⟨x.c,(sendsK sv pt x.c.kind x.c.val (exAt cs i++opQs s.qs) ss x.c.keys).2⟩:=⟨hm.wb_,by simp only[hm.pl];exact hm.row,by show bs.length=_;rw[hm.pl,hsl],hok1,hkb⟩
 have hqf:RQuAt (wa.setCell ⟨v.K,2,none⟩ (.slice va (v.ws.length+1) vc)) ⟨B,kv,kb,pv,bs⟩ ⟨x.c,(sendsK sv pt x.c.kind x.c.val (exAt cs i++opQs s.qs) ss x.c.keys).2⟩:=hqr.keep k5.size (fun b hb=>by
  obtain⟨Z,T,h1,h2⟩:=hqr.kind b hb;exact kb5 h1 (by rcases h2 with e|e|e|e<;>(subst e;decide)) (by rcases h2 with e|e|e|e<;>(subst e;decide)))
 have hw1:∀b∈v.foot,b<w1.heap.size:=(h.cli hi).old;have sz12:w1.heap.size≤w2.heap.size:=k12.size;have hnew:∀b∈RQI.foot ⟨B,kv,kb,pv,bs⟩,w1.heap.size≤b:=fun b hb=>by
  unfold RQI.foot at hb;rcases List.mem_cons.1 hb with e|hb
  ·have:=hm.geB;rw[e];show w1.heap.size≤B;omega
  rcases List.mem_append.1 hb with hb|hb
  ·exact hkl b (optMem hb)
  rcases List.mem_append.1 hb with hb|hb
  ·have:=hm.gep b (mem_own hb);omega
  ·have:=hm.geb b hb;omega
 have hrd:=hcr.rd.at_;have hok':RCliQ (wa.setCell ⟨v.K,2,none⟩ (.slice va (v.ws.length+1) vc)) ⟨v.K,v.Y,.slice va (v.ws.length+1) vc,v.ws++[⟨B,kv,kb,pv,bs⟩]⟩ (gotQ sv pt (exAt cs i) s ss x).1:=by
  refine⟨(blkSet (i:=2) hKa _).trans rfl,⟨(kb5 hrd (by decide) (by decide)).trans hrd,hcr.rd.ok⟩,?_,?_,fun j u c hu hc=>?_,?_,fun y hy=>?_⟩
  ·rw[List.map_append];refine hrow.other (fun g hg=>Below.heap_setCell wa ⟨v.K,2,none⟩ _ g (fun e=>?_));obtain⟨cur,hc⟩:=hrow.blk hg;rw[show g=v.K from e,hKa]at hc;unfold rcO at hc;simp at hc
  ·show(v.ws++[_]).length=(s.qs++[_]).length;have hl:v.ws.length=s.qs.length:=hcr.len;simp only[List.length_append,List.length_singleton]
   omega
  ·simp only at hu;have hc:(s.qs++[(⟨x.c,(sendsK sv pt x.c.kind x.c.val (exAt cs i++opQs s.qs) ss x.c.keys).2⟩:QS)])[j]?=some c:=hc;have hl:v.ws.length=s.qs.length:=hcr.len;by_cases hj:j<v.ws.length
   ·rw[List.getElem?_append_left hj]at hu;rw[List.getElem?_append_left (by omega)]at hc;have hq:=hcr.qu j u c hu hc;exact hq.keep k5.size (fun b hb=>by
     obtain⟨Z,T,h1,h2⟩:=hq.kind b hb;exact kb5 h1 (by rcases h2 with e|e|e|e<;>(subst e;decide)) (by rcases h2 with e|e|e|e<;>(subst e;decide)))
   ·have hj2:=(List.getElem?_eq_some_iff.1 hu).1;simp at hj2;have hj3:j=v.ws.length:=by omega
    subst hj3;rw[List.getElem?_append_right (Nat.le_refl _)]at hu;rw[hl,List.getElem?_append_right (Nat.le_refl _)]at hc;simp at hu hc;subst hu;subst hc;exact hqf
  ·rw[feetRQ_app,feetRQ_one];refine List.nodup_append.2 ⟨hcr.nd,hqr.nd hm.nd,fun a ha b hb e=>?_⟩;have h1:=hw1 a (by unfold RCliV.foot;exact List.mem_cons_of_mem _ (List.mem_cons_of_mem _ (List.mem_append.2 (.inr ha))));have h2:=hnew b hb;omega
  ·have hy:y∈s.qs++[(⟨x.c,(sendsK sv pt x.c.kind x.c.val (exAt cs i++opQs s.qs) ss x.c.keys).2⟩:QS)]:=hy;rcases List.mem_append.1 hy with h1|h1
   ·exact hcr.ok y h1
   ·simp at h1;rw[h1];refine⟨hcm,by show _=x.c.keys.length;rw[hsl],fun p hp=>?_⟩;rcases sendsK_ps sv pt x.c.kind x.c.val (exAt cs i++opQs s.qs) ss x.c.keys p hp with e|⟨o,id,e⟩
    ·rw[e];trivial
    ·rw[e];trivial
 have hl5:Later w1 v.foot (RCliV.foot ⟨v.K,v.Y,.slice va (v.ws.length+1) vc,v.ws++[⟨B,kv,kb,pv,bs⟩]⟩):=fun b hb=>by
  unfold RCliV.foot at hb;rcases List.mem_cons.1 hb with e|hb
  ·rw[e];exact .inl (by simp[RCliV.foot])
  rcases List.mem_cons.1 hb with e|hb
  ·rw[e];exact .inl (by simp[RCliV.foot])
  rcases List.mem_append.1 hb with hb|hb
  ·have hb:=mem_own hb;rcases hat with e|e
   ·rw[e]at hb;exact .inl (by simp[RCliV.foot,hb])
   ·rw[e]at hb;cases hb;have:=hm.chg.size;exact .inr (by simp;omega)
  ·simp only at hb;rw[feetRQ_app,feetRQ_one]at hb;rcases List.mem_append.1 hb with hb|hb
   ·exact .inl (by unfold RCliV.foot;exact List.mem_cons_of_mem _ (List.mem_cons_of_mem _ (List.mem_append.2 (.inr hb))))
   ·exact .inr (hnew b hb)
 have kf:Chg v.foot wr (wa.setCell ⟨v.K,2,none⟩ (.slice va (v.ws.length+1) vc)):=k5.more (fun b hb=>by
  rcases List.mem_cons.1 hb with e|hb
  ·rw[e];simp[RCliV.foot]
  ·unfold RCliV.foot;exact List.mem_cons_of_mem _ (List.mem_cons_of_mem _ (List.mem_append.2 (.inl hb))))
 have fsub:∀b∈v.foot,b∈footRJ X cv (cis.set i v) vs:=fun b hb=>mem_footRJ.2 (.inr (.inr (.inl ⟨i,v,by rw[List.getElem?_set_self hi],hb⟩)))
 have vsub:∀b∈vs,b∈footRJ X cv (cis.set i v) vs:=fun b hb=>mem_footRJ.2 (.inr (.inr (.inr hb)))
 have hbd:=h.bd.got hlw hx sv pt (exAt cs i);have hfin:RJunQ (wa.setCell ⟨v.K,2,none⟩ (.slice va (v.ws.length+1) vc)) X sv pt win cv rv (cis.set i ⟨v.K,v.Y,.slice va (v.ws.length+1) vc,v.ws++[⟨B,kv,kb,pv,bs⟩]⟩) (cs.set i (gotQ sv pt (exAt cs i) s ss x).1) vs (gotQ sv pt (exAt cs i) s ss x).2:=by
  have hil:i<(cis.set i v).length:=by rw[List.length_set];exact hi
  have hb:=hr.blk;unfold rjO at hb;refine⟨(kb5 hb (by decide) (by decide)).trans hb,?_,ownsRow_other hr.srow (fun g hg=>by obtain⟨cur,hc⟩:=ownsRow_blk hr.srow hg;exact kb5 hc (by decide) (by decide)),hr.len,hr.sl,hr.s1,hr.s4,hr.p1,hr.pt_,hr.w6,by rw[List.length_set,List.length_set];exact hcl,by rw[List.length_set];have:=hr.c4;rw[List.length_set]at this;exact this,fun j u y hu hy=>?_,fun a j u1 u2 hij h1 h2 b hb1 hb2=>?_,fun j S y hS hy=>?_,hr.sap,fun y hy=>?_,hr.nx⟩
  ·have:=hr.crow;have hmap:(cis.set i ⟨v.K,v.Y,.slice va (v.ws.length+1) vc,v.ws++[⟨B,kv,kb,pv,bs⟩]⟩).map (fun v=>ptrV v.K)=(cis.set i v).map (fun v=>ptrV v.K):=by
    rw[List.map_set,List.map_set]
   rw[List.length_set]at this⊢;rw[hmap];exact ownsRow_other this (fun g hg=>by obtain⟨cur,hc⟩:=ownsRow_blk this hg;exact kb5 hc (by decide) (by decide))
  ·by_cases hji:i=j
   ·subst hji;rw[List.getElem?_set_self hi]at hu;rw[List.getElem?_set_self (by omega)]at hy;cases hu;cases hy;exact hok'
   ·rw[List.getElem?_set_ne hji]at hu hy;have hc:=hr.cli j u y (by rw[List.getElem?_set_ne hji];exact hu) (by rw[List.getElem?_set_ne hji];exact hy);exact hc.keep kf.size (fun b hb=>kf.block b (hc.old b hb) (hr.cap j i u v (fun e=>hji e.symm) (by rw[List.getElem?_set_ne hji];exact hu) (by rw[List.getElem?_set_self hi]) b hb))
  ·have oldc:∀(j:Nat) (u:RCliV),i≠j→cis[j]?=some u→∀b∈u.foot,b<w1.heap.size:=fun j u hji hu b hb=>h.jun.old (mem_footRJ.2 (.inr (.inr (.inl ⟨j,u,by rw[List.getElem?_set_ne hji];exact hu,hb⟩))))
   have capi:∀(j:Nat) (u:RCliV),i≠j→cis[j]?=some u→∀b∈u.foot,b∉RCliV.foot ⟨v.K,v.Y,.slice va (v.ws.length+1) vc,v.ws++[⟨B,kv,kb,pv,bs⟩]⟩:=fun j u hji hu b hb hb2=>by
    rcases hl5 b hb2 with h3|h3
    ·exact hr.cap j i u v (fun e=>hji e.symm) (by rw[List.getElem?_set_ne hji];exact hu) (by rw[List.getElem?_set_self hi]) b hb h3
    ·have:=oldc j u hji hu b hb;omega
   by_cases h1i:i=a
   ·subst h1i;rw[List.getElem?_set_self hi]at h1;cases h1;rw[List.getElem?_set_ne hij]at h2;exact capi j u2 hij h2 b hb2 hb1
   ·rw[List.getElem?_set_ne h1i]at h1;by_cases h2i:i=j
    ·subst h2i;rw[List.getElem?_set_self hi]at h2;cases h2;exact capi a u1 h1i h1 b hb1 hb2
    ·rw[List.getElem?_set_ne h2i]at h2;exact hr.cap a j u1 u2 hij (by rw[List.getElem?_set_ne h1i];exact h1) (by rw[List.getElem?_set_ne h2i];exact h2) b hb1 hb2
  ·have h1:=hr.srv j S y hS hy;exact(kb5 h1 (by decide) (by decide)).trans h1
  ·obtain⟨jj,hjj⟩:=List.mem_iff_getElem?.1 hy;by_cases hji:i=jj
   ·subst hji;rw[List.getElem?_set_self (by omega)]at hjj;cases hjj;exact hbd.wl
   ·rw[List.getElem?_set_ne hji]at hjj;exact hr.wl y (List.mem_iff_getElem?.2 ⟨jj,by rw[List.getElem?_set_ne hji];exact hjj⟩)
 have g1:Chg (footRJ X cv cis vs) w w2:=h.chg.trans k12 (fun b hb=>h.lat b (fsub b hb));have g2:Chg (footRJ X cv cis vs) w wr:=g1.trans hm.chg (fun b hb=>h.lat b (vsub b hb));have g3:=g2.trans kf (fun b hb=>h.lat b (fsub b hb));refine⟨_,hfin,rfl,h.Y_,g3,fun b hb=>?_,?_,hbd,h.d_⟩
 ·rcases mem_footRJ.1 hb with e|e|⟨j,u,hu,e⟩|e
  ·exact h.lat b (mem_footRJ.2 (.inl e))
  ·exact h.lat b (mem_footRJ.2 (.inr (.inl e)))
  ·by_cases hji:i=j
   ·subst hji;rw[List.getElem?_set_self hi]at hu;cases hu;rcases hl5 b e with h3|h3
    ·exact h.lat b (fsub b h3)
    ·have:=h.chg.size;exact .inr (by omega)
   ·rw[List.getElem?_set_ne hji]at hu;exact h.lat b (mem_footRJ.2 (.inr (.inr (.inl ⟨j,u,by rw[List.getElem?_set_ne hji];exact hu,e⟩))))
  ·exact h.lat b (mem_footRJ.2 (.inr (.inr (.inr e))))
 ·rw[←h.tgt,hst];exact(servQ_some hlw hx).symm
end Go.Proofs.YtlonjggfnleolaaGreatDoor
