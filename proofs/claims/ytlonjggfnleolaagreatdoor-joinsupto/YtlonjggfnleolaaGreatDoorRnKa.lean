import Derived.Test.YtlonjggfnleolaaGreatDoorRnJ
namespace Go.Proofs.YtlonjggfnleolaaGreatDoor
open Go.RowKit Go.Shelf
set_option linter.unusedVariables false
variable {sv pt win o i k m:Nat}{st:List CliQ×List SrvQ}{s:SrvQ}{r:Reply}{cs:List CliQ}
theorem listenJ_stop {ok:Bool}(hs:st.2[o]?=some s)(h:hearO st.1 s o= .stop ok):listenJ sv pt win o st=if ok=true then st else fallJ sv pt win o st:=by
 unfold listenJ;rw[lisJ_stop hs h]
theorem listenJ_got (hs:st.2[o]?=some s)(h:hearO st.1 s o= .got i k m r):listenJ sv pt win o st=listenJ sv pt win o (runJ sv pt win i (anJ st.1 i k m r,st.2.set o {s with held:=s.held.drop r.used})):=by
 unfold listenJ;rw[lisJ_got hs h]
structure RLis (w wr:World)(X sv pt win T:Nat)(cv rv:Value)(n:Nat)(M:List Nat)(vs:List Nat)(o S:Nat)(tgt:List CliQ×List SrvQ)(cis:List RCliV)(cs:List CliQ)(ss:List SrvQ)(s:SrvQ):Prop where
 ran:RRan w wr X sv pt win T cv rv n M vs cis (cs,ss)
 S_:vs[o]?=some S
 srv:ss[o]?=some s
 up:s.up=true
 tgt_:listenJ sv pt win o (cs,ss)=tgt
section
variable {w wr w' Wa:World}{X sv pt win T n o S:Nat}{cv rv:Value}{M:List Nat}{cis:List RCliV}{cs:List CliQ}{vs:List Nat}{ss:List SrvQ}{s:SrvQ}{tgt st:List CliQ×List SrvQ}
theorem RRan.below (h:RRan w wr X sv pt win T cv rv n M vs cis st)(hb:Below wr.heap.size wr w'):RRan w w' X sv pt win T cv rv n M vs cis st:=
 ⟨h.jun.below hb,h.ks,h.bd,h.di,h.chg.trans (Chg.of_below (M:=[]) hb) (fun b hb=>by cases hb),h.lat⟩
theorem RLis.below (h:RLis w wr X sv pt win T cv rv n M vs o S tgt cis cs ss s)(hb:Below wr.heap.size wr w'):RLis w w' X sv pt win T cv rv n M vs o S tgt cis cs ss s:=
 ⟨h.ran.below hb,h.S_,h.srv,h.up,h.tgt_⟩
theorem RLis.blk (h:RLis w wr X sv pt win T cv rv n M vs o S tgt cis cs ss s):wr.heap[S]?=some (rsO true s.next (mkB s.held) s.sent):=by
 have:=h.ran.jun.srv o S s h.S_ h.srv;rw[h.up]at this;exact this
theorem RLis.stop (h:RLis w wr X sv pt win T cv rv n M vs o S tgt cis cs ss s)(hh:hearO cs s o= .stop true):RRan w wr X sv pt win T cv rv n M vs cis tgt:=by
 have e:=h.tgt_;rw[listenJ_stop h.srv hh,if_pos rfl]at e;rw[←e];exact h.ran
theorem RLis.fall (h:RLis w wr X sv pt win T cv rv n M vs o S tgt cis cs ss s)(hT:T+5000≤100000000000)(hh:hearO cs s o= .stop false):Calls Tryz.prog 152 #[.pointer (some ⟨X,0,none⟩),.int .i64 (o:Int)] wr fun e w'=>e= .returned (.tuple #[])∧∃cis',RRan w w' X sv pt win T cv rv n M vs cis' tgt:=by
 have e:=h.tgt_;rw[listenJ_stop h.srv hh,if_neg (by simp)]at e;rw[←e];refine(rfalls h.ran.jun h.srv hT h.ran.bd h.ran.di).mono ?_;rintro e w' ⟨rfl,cis',a⟩;exact⟨rfl,cis',a.jun,a.ks.trans h.ran.ks,a.bd,a.di,h.ran.chg.trans a.chg h.ran.lat,h.ran.lat.trans a.lat h.ran.chg.size⟩
theorem RLis.got (h:RLis w wr X sv pt win T cv rv n M vs o S tgt cis cs ss s)(hT:T+5000≤100000000000){b:Nat}{v:RCliV}{u:RQI}(hh:hearO cs s o= .got i k m r)(hv:cis[i]?=some v)(hu:v.ws[k]?=some u)(hb:u.bs[m]?=some b)(k1:Chg [S] wr Wa)(hS:Wa.heap[S]?=some (rsO true s.next (mkB (s.held.drop r.used)) s.sent)):b≠S∧(∃o' id':Nat,Wa.heap[b]?=some (rpO o' id' 0 0 ⟨#[]⟩))∧(∀W1,Chg [b] Wa W1→(∃o' id':Nat,W1.heap[b]?=some (rpO o' id' 1 r.st r.val))→Calls Tryz.prog 151 #[.pointer (some ⟨X,0,none⟩),.pointer (some ⟨v.K,0,none⟩)] W1 fun e w'=>e= .returned (.tuple #[])∧∃cis' cs' ss' s',RLis w w' X sv pt win T cv rv n M vs o S tgt cis' cs' ss' s'∧s'.held.length<s.held.length):=by
 obtain⟨g1,g2,g3,g4,g5⟩:=hearO_got hh;obtain⟨j,s1,x,e0,hs1,hx,hp⟩:=findP_some o r.id cs 0 i k m g3;obtain rfl:i=j:=by omega
 have hpart:=((h.ran.jun.cli i v s1 hv hs1).qu k u x hu hx).ok m b _ hb hp;have hbS:=h.blk;have hnb:b≠S:=fun e=>by
  rw[e]at hpart;have h1:wr.heap[S]?=some (rpO o r.id 0 0 ⟨#[]⟩):=hpart;rw[hbS]at h1;unfold rsO rpO at h1;simp at h1
 obtain⟨a1,a2⟩:=h.ran.jun.srvSet (s':={s with held:=s.held.drop r.used}) h.S_ h.srv k1 (by simp only[h.up];exact hS) (h.ran.jun.nx s (List.mem_of_getElem? h.srv));have hpa:Wa.heap[b]?=some (rpO o r.id 0 0 ⟨#[]⟩):=(k1.block b (blkLt hpart) (by simp;exact hnb)).trans hpart;refine⟨hnb,⟨o,r.id,hpa⟩,fun W1 k2 hW1=>?_⟩;obtain⟨f1,f2,f3,f4,f5,f6⟩:=fromR_some g5;have hkind:kindAt cs i k=x.c.kind:=by unfold kindAt;rw[hs1];simp only;rw[hx]
 have hpk:PSOk x.c.kind (.an r.st r.val):=by
  refine⟨by omega,f4,?_⟩;rw[hkind]at g4;unfold mayB at g4;simp only[Bool.or_eq_true,Bool.and_eq_true,decide_eq_true_eq]at g4;rcases g4 with e|e
  ·exact .inr e
  ·rw[ByteArray.toList_eq]at e;exact .inl e
 obtain⟨b1,b2⟩:=a1.partTo hv hs1 hu hx hb k2 (p':= .an r.st r.val) hW1 hpk;have ea:anJ cs i k m r=cs.set i {s1 with qs:=s1.qs.set k ⟨x.c,x.ps.set m (.an r.st r.val)⟩}:=by
  unfold anJ;rw[hs1];simp only
  unfold anC;rw[hx]
 have hbd:=h.ran.bd.an i k m o r h.srv (s.held.drop r.used);rw[←ea]at b1;refine(rserves_jun b1 hv hT hbd (by rw[ea];exact h.ran.di.set hs1 rfl)).mono ?_;rintro e w' ⟨rfl,v',_,a⟩;have hg:=listenJ_got (sv:=sv) (pt:=pt) (win:=win) (st:=(cs,ss)) h.srv hh;obtain⟨s',c1,c2,c3,c4⟩:=got_held (sv:=sv) (pt:=pt) (win:=win) (st:=(cs,ss)) h.srv hh;simp only at hg c1;have hkk:Chg (footRJ X cv cis vs) wr W1:=a2.trans b2 (fun b hb=> .inl hb);refine⟨rfl,_,(runJ sv pt win i (anJ cs i k m r,ss.set o {s with held:=s.held.drop r.used})).1,(runJ sv pt win i (anJ cs i k m r,ss.set o {s with held:=s.held.drop r.used})).2,s',⟨⟨a.jun,a.ks.trans h.ran.ks,a.bd,a.di,?_,?_⟩,h.S_,c1,c3.trans h.up,?_⟩,c4⟩
 ·exact h.ran.chg.trans (hkk.trans a.chg (fun b hb=> .inl hb)) h.ran.lat
 ·exact h.ran.lat.trans ((Later.refl _ _).trans a.lat hkk.size) h.ran.chg.size
 ·rw[←h.tgt_,hg]
end
def hvN (w:World)(S:Nat):Nat:=match w.cell? ⟨S,2,none⟩with
 |some (.string b)=>b.size
 |_=>0
theorem RLis.hv {w wr:World}{X T n S:Nat}{cv rv:Value}{M:List Nat}{cis:List RCliV}{vs:List Nat}{ss:List SrvQ}{tgt:List CliQ×List SrvQ}(h:RLis w wr X sv pt win T cv rv n M vs o S tgt cis cs ss s):hvN wr S=s.held.length:=by
 have hb:=h.blk;unfold rsO at hb;have c2:wr.cell? ⟨S,2,none⟩=some (.string (mkB s.held)):=blkCell hb 2;unfold hvN;rw[c2];simp only
 exact mkB_size _
theorem hear_short (h:s.held.length<7):hearO cs s o= .stop true:=by
 have e:fromR s.held=(none,true):=by unfold fromR;rw[if_pos h]
 unfold hearO;rw[e]
theorem hear_bad (h:¬s.held.length<7)(hb:byAt s.held 0≠2∨2<byAt s.held 1∨byAt s.held 2≠0∨40<numAt s.held 3):hearO cs s o= .stop false:=by
 have e:fromR s.held=(none,false):=by unfold fromR;rw[if_neg h,if_pos hb]
 unfold hearO;rw[e]
theorem hear_wait (h:¬s.held.length<7)(hb:¬(byAt s.held 0≠2∨2<byAt s.held 1∨byAt s.held 2≠0∨40<numAt s.held 3))(hl:s.held.length<7+numAt s.held 3):hearO cs s o= .stop true:=by
 have e:fromR s.held=(none,true):=by unfold fromR;rw[if_neg h,if_neg hb,if_pos hl]
 unfold hearO;rw[e]
def repOf (l:List UInt8):Reply:=⟨byAt l 1,numAt l 5,bytesOf l 7 (numAt l 3),7+numAt l 3⟩
theorem hear_full (h:¬s.held.length<7)(hb:¬(byAt s.held 0≠2∨2<byAt s.held 1∨byAt s.held 2≠0∨40<numAt s.held 3))(hl:¬s.held.length<7+numAt s.held 3):hearO cs s o=match findP o (numAt s.held 5) cs 0 with
 |none=> .stop false
 |some (i,k,m)=>if numAt s.held 3=0∨(kindAt cs i k=1∧byAt s.held 1=0)then .got i k m (repOf s.held)else .stop false:=by
 have e:fromR s.held=(some (repOf s.held),true):=by unfold fromR;rw[if_neg h,if_neg hb,if_neg hl];rfl
 unfold hearO
 rw[e]
 simp only
 show(match findP o (numAt s.held 5) cs 0 with
  |none=>HO.stop false
  |some (i,k,m)=>if mayB (kindAt cs i k) (repOf s.held)=true then .got i k m (repOf s.held)else .stop false)=_
 cases findP o (numAt s.held 5) cs 0 with
 |none=>rfl
 |some t=>
  obtain⟨i,k,m⟩:=t;simp only
  have em:mayB (kindAt cs i k) (repOf s.held)=true↔numAt s.held 3=0∨(kindAt cs i k=1∧byAt s.held 1=0):=by
   unfold mayB;simp only[Bool.or_eq_true,Bool.and_eq_true,decide_eq_true_eq]
   have:(repOf s.held).val.toList.isEmpty=true↔numAt s.held 3=0:=by
    rw[ByteArray.toList_eq,List.isEmpty_iff];show((s.held.drop 7).take (numAt s.held 3)).toArray.toList=[]↔_;rw[List.toList_toArray,←List.length_eq_zero_iff,List.length_take,List.length_drop];omega
   rw[this];show(kindAt cs i k=1∧byAt s.held 1=0)∨_↔_;exact Or.comm
  by_cases hm:mayB (kindAt cs i k) (repOf s.held)=true
  ·rw[if_pos hm,if_pos (em.1 hm)]
  ·rw[if_neg hm,if_neg (fun e=>hm (em.2 e))]
end Go.Proofs.YtlonjggfnleolaaGreatDoor
