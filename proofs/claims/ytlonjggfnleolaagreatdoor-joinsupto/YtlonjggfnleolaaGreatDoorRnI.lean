import Derived.Test.YtlonjggfnleolaaGreatDoorSayA
import Derived.Test.YtlonjggfnleolaaGreatDoorRnH
namespace Go.Proofs.YtlonjggfnleolaaGreatDoor
open Go.RowKit Go.Shelf Go.Conc
set_option linter.unusedVariables false
set_option maxHeartbeats 1000000
set_option maxRecDepth 100000
variable {W W':World}{win i:Nat}{v:CliV}{s:CliQ}
def tookQ (s:CliQ)(piece:List UInt8):CliQ:={s with st:=takeS s.st piece}
theorem CliAt.took (h:CliAt W win v s)(st':St)(hT:RdrTo W W' v.k.R v.k.hb v.k.t st'):∃v':CliV,v'.k.C=v.k.C∧v'.qi=v.qi∧CliAt W' win v' {s with st:=st'}∧Chg v.foot W W'∧Later W v.foot v'.foot:=by
 obtain⟨hb',a1,a2,a3⟩:=h.cor.took st' hT;obtain⟨b1,b2,b3⟩:=h.corTo a2 a1 rfl a3;exact⟨⟨{v.k with hb:=hb'},v.qi⟩,rfl,rfl,b1,b2,b3⟩
theorem CorAt.looked {v:CliI}{s:CliS}(h:CorAt W win v s)(k:Chg v.bv.ownBlock.toList W W')(hb:BldRow W' v.bv s.told):CorAt W' win v s∧Chg v.foot W W':=by
 obtain⟨n1,n2,n3,n4,n5⟩:=h.nC;obtain⟨m1,m2,m3,m4⟩:=h.nCh;have k':Chg v.foot W W':=k.more (fun b hb=>by simp[CliI.foot,optMem hb]);have kb:∀b∈v.foot,v.bv.ownBlock≠some b→W'.heap[b]?=W.heap[b]?:=fun b hb h1=>k.block b (h.old b hb) (fun hm=>h1 (optMem hm))
 obtain⟨buf,a,b,tm,c1,c2⟩:=h.chan;exact⟨⟨(kb _ (by simp[CliI.foot]) n5).trans h.blk,h.rd.other (kb _ (by simp[CliI.foot]) (fun e=>(h.nB e).2.1 rfl)) (fun b hb=>kb b (by simp[CliI.foot,hb]) (fun e=>(h.nB e).2.2.1 hb)),h.di,⟨buf,a,b,tm,(kb _ (by simp[CliI.foot]) m4).trans c1,c2⟩,ownsRow_other h.row (fun g hg=>kb g (by simp[CliI.foot,hg]) (h.nW hg).2.2.2),h.ql,h.bpv,hb,h.ab⟩,k'⟩
theorem SrvAt.looked {v:SrvV}{s:SrvQ}(h:SrvAt W v s)(k:Chg v.bv.ownBlock.toList W W')(hb:BldRow W' v.bv s.sent):SrvAt W' v s∧Chg v.foot W W':=by
 have k':Chg v.foot W W':=k.more (fun b hb=>by simp[SrvV.foot,optMem hb]);obtain⟨n1,n2,n3,n4,n5⟩:=h.nS;have kb:∀b∈v.foot,v.bv.ownBlock≠some b→W'.heap[b]?=W.heap[b]?:=fun b hb h1=>k.block b (h.old b hb) (fun hm=>h1 (optMem hm))
 refine⟨⟨h.inb.keep (fun b hb=>?_),h.mp.other (kb _ (by simp[SrvV.foot]) n5),h.bpv,hb,h.nx,h.ab⟩,k'⟩;rcases hb with e|e
 ·rw[e];exact kb _ (by simp[SrvV.foot]) n3
 ·exact kb b (by simp[SrvV.foot,e]) (fun e2=>h.ab b e2 e)
def saidJ (sv pt win i:Nat)(piece:List UInt8)(st:List CliQ×List SrvQ):List CliQ×List SrvQ:=match st.1[i]?with
 |none=>st
 |some s=>runJ sv pt win i (st.1.set i (tookQ s piece),st.2)
section
variable {w:World}{X sv pt win g sc:Nat}{cv:Value}{cis:List CliV}{cs:List CliQ}{vs:List SrvV}{ss:List SrvQ}
theorem sayQ_no (h:JunQ w X sv pt win g sc cv cis cs vs ss)(k:Int)(piece:ByteArray)(hk:k<0∨(cis.length:Int)≤k):Calls Tryz.prog 28 #[.pointer (some ⟨X,0,none⟩),.int .i64 k,.string piece] w fun e w'=>e= .returned (.int .i64 1)∧w'=w:=by
 obtain⟨a,c,rfl⟩:=h.cvLen;have c3:=(juCells h.blk).2.2.2.1;have hlt:=blkLt h.blk;have hn:=h.c4;have HN:=hide' (at_no 56 (.inl rfl) a cis.length c k w (by omega) hk);clear h hk hn;go_enter Tryz.func28,Tryz.ntmps28;go_wp2_with fail
 go_at_call 56;refine HN.out.mono ?_;rintro e w1 ⟨rfl,hw1⟩;subst hw1;go_wp2;go_ret;exact⟨rfl,rfl⟩
theorem sayQ_yes (h:JunQ w X sv pt win g sc cv cis cs vs ss)(hv:cis[i]?=some v)(hs:cs[i]?=some s)(piece:ByteArray){T:Nat}(hT:T+5000≤100000000000)(hb:BdJ win T (cs.set i (tookQ s piece.data.toList)) ss)(h2:2*s.st.held.length+piece.size≤140737488355328):Calls Tryz.prog 28 #[.pointer (some ⟨X,0,none⟩),.int .i64 (i:Int),.string piece] w fun e w'=>e= .returned (.int .i64 0)∧∃cis' vs',JunQ w' X sv pt win g sc cv cis' (saidJ sv pt win i piece.data.toList (cs,ss)).1 vs' (saidJ sv pt win i piece.data.toList (cs,ss)).2∧cis'.length=cis.length∧BdJ win T (saidJ sv pt win i piece.data.toList (cs,ss)).1 (saidJ sv pt win i piece.data.toList (cs,ss)).2∧Chg (footQ X cv cis vs) w w'∧Later w (footQ X cv cis vs) (footQ X cv cis' vs'):=by
 obtain⟨gg,c,rfl,hgl,hgc⟩:=h.cvAt hv;have hi:=(List.getElem?_eq_some_iff.1 hv).1;have hrun:=h.run hv hs;have c3:=(juCells h.blk).2.2.2.1;have hlt:=blkLt h.blk;have hn:=h.c4;have d0:=(clCells hrun.cli.cor.blk).1;have hltC:=blkLt hrun.cli.cor.blk;have HN:=hide' (at_yes 56 (.inl rfl) gg cis.length c i v.k.C w (by omega) hi hgc hgl);have HTk:=hide' (take_any v.k.R v.k.t v.k.hb s.st piece w hrun.cli.cor.rd h2);have HRun:Hid (∀w',RdrTo w w' v.k.R v.k.hb v.k.t (takeS s.st piece.data.toList)→Calls Tryz.prog 59 #[.pointer (some ⟨X,0,none⟩),.pointer (some ⟨v.k.C,0,none⟩)] w' fun e w2=>e= .returned (.tuple #[])∧∃cis' vs',JunQ w2 X sv pt win g sc (.slice (some ⟨gg,0,none⟩) cis.length c) cis' (saidJ sv pt win i piece.data.toList (cs,ss)).1 vs' (saidJ sv pt win i piece.data.toList (cs,ss)).2∧cis'.length=cis.length∧BdJ win T (saidJ sv pt win i piece.data.toList (cs,ss)).1 (saidJ sv pt win i piece.data.toList (cs,ss)).2∧Chg (footQ X (.slice (some ⟨gg,0,none⟩) cis.length c) cis vs) w w2∧Later w (footQ X (.slice (some ⟨gg,0,none⟩) cis.length c) cis vs) (footQ X (.slice (some ⟨gg,0,none⟩) cis.length c) cis' vs')):=fun w' hT'=>by
  obtain⟨v1,e1,e2,a1,a2,a3⟩:=hrun.cli.took _ hT';have hrun':=hrun.cliTo a2 a3 a1 (by rw[e1,e2]);obtain⟨r1,r2,r3⟩:=h.ran hv hrun' e1 (a2.more (fun b hb=>List.mem_append.2 (.inl hb))) ((Later.refl _ _).app (Nat.le_refl _) a3 (Later.refl _ _)) (h.wl s (List.mem_of_getElem? hs));have hro:=readOn_jun r1 (List.getElem?_set_self hi) hT hb;rw[e1]at hro;refine hro.mono ?_;rintro e w2 ⟨rfl,v',vs',b1,b2,b3,b4,b5⟩;have es:saidJ sv pt win i piece.data.toList (cs,ss)=runJ sv pt win i (cs.set i (tookQ s piece.data.toList),ss):=by unfold saidJ;simp only[hs]
  rw[es];exact⟨rfl,_,vs',b2,by simp,b3,r2.trans b4 r3,r3.trans b5 r2.size⟩
 clear h hrun hb hgc hgl hn;go_enter Tryz.func28,Tryz.ntmps28;go_wp2_with fail
 go_at_call 56;refine HN.out.mono ?_;rintro e w1 ⟨rfl,hw1⟩;subst hw1;go_wp2_with fail
 go_at_call 58;refine HTk.out.mono ?_;rintro e w2 ⟨rfl,hto⟩;have HR2:=hide' (HRun.out w2 hto);clear hto;go_wp2_with fail
 go_at_call 59;refine HR2.out.mono ?_;rintro e w3 ⟨rfl,hfin⟩;have HF:=hide' hfin;clear hfin;go_wp2;go_ret;exact⟨rfl,HF.out⟩
theorem toldQ_no (h:JunQ w X sv pt win g sc cv cis cs vs ss)(k:Int)(hk:k<0∨(cis.length:Int)≤k):Calls Tryz.prog 26 #[.pointer (some ⟨X,0,none⟩),.int .i64 k] w fun e w'=>e= .returned (.tuple #[.string ⟨#[]⟩,.int .i64 1])∧w'=w:=by
 obtain⟨a,c,rfl⟩:=h.cvLen;have c3:=(juCells h.blk).2.2.2.1;have hlt:=blkLt h.blk;have hn:=h.c4;have HN:=hide' (at_no 56 (.inl rfl) a cis.length c k w (by omega) hk);clear h hk hn;go_enter Tryz.func26,Tryz.ntmps26;go_wp2_with fail
 go_at_call 56;refine HN.out.mono ?_;rintro e w1 ⟨rfl,hw1⟩;subst hw1;go_wp2;go_ret2;exact⟨rfl,rfl⟩
theorem toldQ_yes (h:JunQ w X sv pt win g sc cv cis cs vs ss)(hv:cis[i]?=some v)(hs:cs[i]?=some s):Calls Tryz.prog 26 #[.pointer (some ⟨X,0,none⟩),.int .i64 (i:Int)] w fun e w'=>e= .returned (.tuple #[.string (mkB s.told),.int .i64 0])∧JunQ w' X sv pt win g sc cv cis cs vs ss∧Chg (footQ X cv cis vs) w w':=by
 obtain⟨gg,c,rfl,hgl,hgc⟩:=h.cvAt hv;have hi:=(List.getElem?_eq_some_iff.1 hv).1;have hrun:=h.run hv hs;have c3:=(juCells h.blk).2.2.2.1;have hlt:=blkLt h.blk;have hn:=h.c4;have hltC:=blkLt hrun.cli.cor.blk;have HN:=hide' (at_yes 56 (.inl rfl) gg cis.length c i v.k.C w (by omega) hi hgc hgl);have HB:=hide' (bld_string v.k.C 3 v.k.bv s.told w (clCells hrun.cli.cor.blk).2.2.2.2.1 hrun.cli.cor.bld);have HFin:Hid (∀w',BldRow w' v.k.bv s.told→Chg v.k.bv.ownBlock.toList w w'→JunQ w' X sv pt win g sc (.slice (some ⟨gg,0,none⟩) cis.length c) cis cs vs ss∧Chg (footQ X (.slice (some ⟨gg,0,none⟩) cis.length c) cis vs) w w'):=fun w' hb hk=>by
  obtain⟨a1,a2⟩:=hrun.cli.cor.looked hk hb;obtain⟨c1,c2,c3⟩:=hrun.cli.corTo a2 a1 rfl (Later.refl _ _);obtain⟨r1,r2,r3⟩:=h.ran hv (hrun.cliTo c2 c3 c1 rfl) rfl (c2.more (fun b hb=>List.mem_append.2 (.inl hb))) (Later.refl _ _) (h.wl s (List.mem_of_getElem? hs));rw[set_same hs]at r1;rw[show(⟨v.k,v.qi⟩:CliV)=v from rfl,set_same hv]at r1;exact⟨r1,r2⟩
 clear h hrun hgc hgl hn;go_enter Tryz.func26,Tryz.ntmps26;go_wp2_with fail
 go_at_call 56;refine HN.out.mono ?_;rintro e w1 ⟨rfl,hw1⟩;subst hw1;go_wp2_with fail
 go_at_call 57;refine HB.out.mono ?_;rintro e w2 ⟨rfl,hb,hk⟩;have HF:=hide' (HFin.out w2 hb hk);clear hb hk;go_wp2;go_ret2;exact⟨rfl,HF.out⟩
theorem sentQ_no (h:JunQ w X sv pt win g sc cv cis cs vs ss)(k:Int)(hk:k<0∨(sv:Int)≤k):Calls Tryz.prog 30 #[.pointer (some ⟨X,0,none⟩),.int .i64 k] w fun e w'=>e= .returned (.tuple #[.string ⟨#[]⟩,.int .i64 1])∧w'=w:=by
 have c4:=(juCells h.blk).2.2.2.2.1;have hlt:=blkLt h.blk;have HN:=hide' (at_no 60 (.inr rfl) (some ⟨g,0,none⟩) sv sc k w (by have:=h.s4;omega) hk);clear h hk;go_enter Tryz.func30,Tryz.ntmps30;go_wp2_with fail
 go_at_call 60;refine HN.out.mono ?_;rintro e w1 ⟨rfl,hw1⟩;subst hw1;go_wp2;go_ret2;exact⟨rfl,rfl⟩
theorem sentQ_yes (h:JunQ w X sv pt win g sc cv cis cs vs ss){v:SrvV}{s:SrvQ}(hv:vs[i]?=some v)(hs:ss[i]?=some s):Calls Tryz.prog 30 #[.pointer (some ⟨X,0,none⟩),.int .i64 (i:Int)] w fun e w'=>e= .returned (.tuple #[.string (mkB s.sent),.int .i64 0])∧JunQ w' X sv pt win g sc cv cis cs vs ss∧Chg (footQ X cv cis vs) w w':=by
 have hi:i<sv:=by rw[←h.len];exact(List.getElem?_eq_some_iff.1 hv).1
 have hok:=h.srv.ok i v s hv hs;obtain⟨Zg,g1,g2⟩:=h.gb;have c4:=(juCells h.blk).2.2.2.2.1;have hlt:=blkLt h.blk;obtain⟨iv,iu,ip,ic,hb0⟩:=hok.blk;have hltS:=blkLt hb0;have HN:=hide' (at_yes 60 (.inr rfl) g sv sc i v.S w (by have:=h.s4;omega) hi ((blkCell g1 i).trans (g2 i v hv)) (blkLt g1));unfold svO at hb0;have HB:=hide' (bld_string v.S 7 v.bv s.sent w (blkCell hb0 8) hok.row);have HFin:Hid (∀w',BldRow w' v.bv s.sent→Chg v.bv.ownBlock.toList w w'→JunQ w' X sv pt win g sc cv cis cs vs ss∧Chg (footQ X cv cis vs) w w'):=fun w' hb hk=>by
  obtain⟨a1,a2⟩:=hok.looked hk hb;have hin:∀b∈v.foot,b∈feetS vs:=fun b hb=>mem_feetS.2 ⟨i,v,hv,hb⟩
  obtain⟨r1,r2⟩:=h.srv.step hv a2 a1 (Later.refl _ _);rw[set_same hv,set_same hs]at r1;obtain⟨nx1,nx2,nx3⟩:=h.nX;refine⟨⟨a2.keep h.blk (fun e=>nx2 (hin X e)),⟨Zg,a2.keep g1 (fun e=>nx3 (hin g e)),g2⟩,h.len,h.s1,h.s4,h.sc_,h.pt_,h.w6,ownsRow_other h.row (fun gg hg=>?_),h.cl,h.c4,fun j z y hz hy=>?_,h.cap,r1,h.ap,h.mr,h.wl⟩,a2.more (fun b hb=>by unfold footQ;exact List.mem_cons_of_mem _ (List.mem_append.2 (.inr (List.mem_append.2 (.inr (hin b hb))))))⟩
  ·obtain⟨b1,b2,b3⟩:=h.nRow hg;exact a2.block gg b1 (fun e=>b3 (hin gg e))
  ·exact(h.cli j z y hz hy).keep (fun b hb=>a2.block b (civ_old h hz b hb) (fun e=>h.ap j z hz b hb (hin b e)))
 clear h g1 g2 hb0;go_enter Tryz.func30,Tryz.ntmps30;go_wp2_with fail
 go_at_call 60;refine HN.out.mono ?_;rintro e w1 ⟨rfl,hw1⟩;subst hw1;go_wp2_with fail
 go_at_call 57;refine HB.out.mono ?_;rintro e w2 ⟨rfl,hb,hk⟩;have HF:=hide' (HFin.out w2 hb hk);clear hb hk;go_wp2;go_ret2;exact⟨rfl,HF.out⟩
end
set_option maxHeartbeats 2000000
set_option maxRecDepth 100000
variable {X sv pt win g sc o:Nat}{cv:Value}{cis:List CliV}{cs:List CliQ}{vs:List SrvV}{ss:List SrvQ}{u:SrvV}
theorem JunQ.sameS {W W':World}{cis':List CliV}{cs':List CliQ}{vs':List SrvV}{ss':List SrvQ}(h:JunQ W X sv pt win g sc cv cis cs vs ss)(h':JunQ W' X sv pt win g sc cv cis' cs' vs' ss')(k:Chg (footQ X cv cis vs) W W')(hu:vs[o]?=some u):∃u',vs'[o]?=some u'∧u'.S=u.S:=by
 obtain⟨Zg,g1,g2⟩:=h.gb;obtain⟨Zg',g1',g2'⟩:=h'.gb;have hn:g∉footQ X cv cis vs:=fun hm=>by
  unfold footQ at hm;rcases List.mem_cons.1 hm with e|hm
  ·have:=h.blk;rw[←e,g1]at this;unfold juO at this;simp at this
  rcases List.mem_append.1 hm with hm|hm
  ·obtain⟨cur,hc⟩:=ownsRow_blk h.row (mem_own hm);rw[g1]at hc;simp at hc
  rcases List.mem_append.1 hm with hm|hm
  ·obtain⟨i,v,hv,hb⟩:=mem_civ.1 hm;exact(h.nX.1 i v hv).2 hb
  ·exact h.nX.2.2 hm
 have hk:=k.keep g1 hn;rw[hk]at g1';simp at g1';subst g1';have ho:o<vs'.length:=by rw[h'.len,←h.len];exact(List.getElem?_eq_some_iff.1 hu).1
 refine⟨vs'[o],List.getElem?_eq_getElem ho,?_⟩;have e1:=g2 o u hu;have e2:=g2' o _ (List.getElem?_eq_getElem ho);rw[e1]at e2;simp at e2;exact e2.symm
structure LisAt (wr:World)(X sv pt win g sc:Nat)(cv:Value)(S o T n0:Nat)(M:List Nat)(w:World)(tgt:(List CliQ×List SrvQ)×Bool)(cis:List CliV)(cs:List CliQ)(vs:List SrvV)(ss:List SrvQ)(b:Bool):Prop where
 jun:JunQ wr X sv pt win g sc cv cis cs vs ss
 at_:∃u,vs[o]?=some u∧u.S=S
 len:cis.length=n0
 bd:BdJ win T cs ss
 chg:Chg M w wr
 lat:∀b∈footQ X cv cis vs,b∈M∨w.heap.size+3≤b
 size:w.heap.size+3≤wr.heap.size
 b0:wr.heap[w.heap.size]?=some (.cells #[.pointer (some ⟨X,0,none⟩)] 53 (0,0))
 b1:wr.heap[w.heap.size+1]?=some (.cells #[.pointer (some ⟨S,0,none⟩)] 137 (0,0))
 b2:wr.heap[w.heap.size+1+1]?=some (.cells #[.bool b] 4 (0,0))
 tg:lisJ sv pt win o (cs,ss)=tgt
section
variable {wr w' w:World}{X sv pt win g sc:Nat}{cv:Value}{S o T n0:Nat}{M:List Nat}{tgt tgt':(List CliQ×List SrvQ)×Bool}{cis cis':List CliV}{cs cs':List CliQ}{vs vs':List SrvV}{ss ss':List SrvQ}{b:Bool}
theorem LisAt.to_ (h:LisAt wr X sv pt win g sc cv S o T n0 M w tgt cis cs vs ss b)(hM:∀b∈M,b<w.heap.size)(k:Chg (footQ X cv cis vs) wr w')(l:Later wr (footQ X cv cis vs) (footQ X cv cis' vs'))(hj:JunQ w' X sv pt win g sc cv cis' cs' vs' ss')(ha:∃u,vs'[o]?=some u∧u.S=S)(hl:cis'.length=n0)(hb:BdJ win T cs' ss')(ht:lisJ sv pt win o (cs',ss')=tgt'):LisAt w' X sv pt win g sc cv S o T n0 M w tgt' cis' cs' vs' ss' b:=by
 have hn:∀i,w.heap.size≤i→i<w.heap.size+3→i∉footQ X cv cis vs:=fun i h1 h2 hm=>by
  rcases h.lat _ hm with e|e
  ·have:=hM _ e;omega
  ·omega
 refine⟨hj,ha,hl,hb,⟨k.os.trans h.chg.os,k.tape.trans h.chg.tape,k.output.trans h.chg.output,Nat.le_trans h.chg.size k.size,fun c hc hcn=>?_⟩,fun c hc=>?_,Nat.le_trans h.size k.size,k.keep h.b0 (hn _ (by omega) (by omega)),k.keep h.b1 (hn _ (by omega) (by omega)),k.keep h.b2 (hn _ (by omega) (by omega)),ht⟩
 ·refine(k.block c (Nat.lt_of_lt_of_le hc h.chg.size) (fun hm=>?_)).trans (h.chg.block c hc hcn);rcases h.lat _ hm with e|e
  ·exact hcn e
  ·omega
 ·rcases l c hc with e|e
  ·exact h.lat c e
  ·have:=h.size;exact .inr (by omega)
theorem LisAt.set (h:LisAt wr X sv pt win g sc cv S o T n0 M w tgt cis cs vs ss b)(hM:∀b∈M,b<w.heap.size)(b':Bool):LisAt (wr.setCell ⟨w.heap.size+1+1,0,none⟩ (.bool b')) X sv pt win g sc cv S o T n0 M w tgt cis cs vs ss b':=by
 have k:Chg [w.heap.size+1+1] wr (wr.setCell ⟨w.heap.size+1+1,0,none⟩ (.bool b')):=(Chg.refl _ wr).set (.inl (by simp)) _;have hn:w.heap.size+1+1∉footQ X cv cis vs:=fun hm=>by
  rcases h.lat _ hm with e|e
  ·have:=hM _ e;omega
  ·omega
 obtain⟨Zg,g1,_⟩:=h.jun.gb;have hg:w.heap.size+1+1≠g:=fun e=>by
  have:=h.b2;rw[e,g1]at this;simp at this
 refine⟨h.jun.chg k (fun c hc=>by simp at hc;rw[hc];exact⟨hn,hg⟩),h.at_,h.len,h.bd,⟨k.os.trans h.chg.os,k.tape.trans h.chg.tape,k.output.trans h.chg.output,Nat.le_trans h.chg.size k.size,fun c hc hcn=>?_⟩,h.lat,by rw[World.size_setCell];exact h.size,k.keep h.b0 (by simp;omega),k.keep h.b1 (by simp),(blkSet (i:=0) h.b2 _).trans rfl,h.tg⟩;exact(k.block c (Nat.lt_of_lt_of_le hc h.chg.size) (by simp;omega)).trans (h.chg.block c hc hcn)
theorem LisAt.below (h:LisAt wr X sv pt win g sc cv S o T n0 M w tgt cis cs vs ss b)(hb:Below wr.heap.size wr w'):LisAt w' X sv pt win g sc cv S o T n0 M w tgt cis cs vs ss b:=
 ⟨h.jun.below hb,h.at_,h.len,h.bd,⟨hb.os.trans h.chg.os,hb.tape.trans h.chg.tape,hb.output.trans h.chg.output,Nat.le_trans h.chg.size hb.size,fun c hc hcn=>(hb.block c (Nat.lt_of_lt_of_le hc h.chg.size)).trans (h.chg.block c hc hcn)⟩,h.lat,Nat.le_trans h.size hb.size,(hb.block _ (blkLt h.b0)).trans h.b0,(hb.block _ (blkLt h.b1)).trans h.b1,(hb.block _ (blkLt h.b2)).trans h.b2,h.tg⟩
end
def LisTo (w w':World)(X sv pt win g sc:Nat)(cv:Value)(T n0:Nat)(M:List Nat)(st:List CliQ×List SrvQ):Prop:=∃cis' vs',JunQ w' X sv pt win g sc cv cis' st.1 vs' st.2∧cis'.length=n0∧BdJ win T st.1 st.2∧Chg M w w'∧Later w M (footQ X cv cis' vs')
theorem listen_jun {w:World}(h:JunQ w X sv pt win g sc cv cis cs vs ss){su:SrvQ}(hu:vs[o]?=some u)(hsu:ss[o]?=some su){T:Nat}(hT:T+5000≤100000000000)(hb:BdJ win T cs ss):Calls Tryz.prog 63 #[.pointer (some ⟨X,0,none⟩),.pointer (some ⟨u.S,0,none⟩)] w fun e w'=>e= .returned (.tuple #[])∧LisTo w w' X sv pt win g sc cv T cis.length (footQ X cv cis vs) (listenJ sv pt win o (cs,ss)):=by
 have hmf:∀(fn:Fn) (first cap:Array Value) (w:World),(Instr.makeFunc fn first cap).run Tryz.prog w= .ok (.func fn first cap) w:=fun _ _ _ _=>rfl
 obtain⟨S,hS⟩:∃S,u.S=S:=⟨_,rfl⟩
 rw[hS];obtain⟨M,hM⟩:∃M,footQ X cv cis vs=M:=⟨_,rfl⟩
 obtain⟨n0,hn0⟩:∃n0,cis.length=n0:=⟨_,rfl⟩
 rw[hM,hn0];have HM:Hid (∀b∈M,b<w.heap.size):=fun b hb'=>h.old b (by rw[hM];exact hb')
 have HB3:Hid (∀O1 O2 O3,Below w.heap.size w (((w.alloc O1).alloc O2).alloc O3)):=fun O1 O2 O3=>(((Below.refl _ _).alloc (Nat.le_refl _) _).alloc (by simp) _).alloc (by simp;omega) _
 have H0:Hid (LisAt (((w.alloc (.cells #[.pointer (some ⟨X,0,none⟩)] 53)).alloc (.cells #[.pointer (some ⟨S,0,none⟩)] 137)).alloc (.cells #[.bool true] 4)) X sv pt win g sc cv S o T n0 M w (lisJ sv pt win o (cs,ss)) cis cs vs ss true):=by
  have hb3:=HB3.out (.cells #[.pointer (some ⟨X,0,none⟩)] 53) (.cells #[.pointer (some ⟨S,0,none⟩)] 137) (.cells #[.bool true] 4);refine⟨h.below hb3,⟨u,hu,hS⟩,hn0,hb,Chg.of_below hb3,fun b hb'=> .inl (by rw[←hM];exact hb'),by simp,?_,?_,?_,rfl⟩
  ·exact hs_alloc (hs_alloc (blkNew w _) _) _
  ·have:=hs_alloc (blkNew (w.alloc (.cells #[.pointer (some ⟨X,0,none⟩)] 53)) (.cells #[.pointer (some ⟨S,0,none⟩)] 137)) (.cells #[.bool true] 4);rw[World.size_alloc]at this;exact this
  ·have:=blkNew ((w.alloc (.cells #[.pointer (some ⟨X,0,none⟩)] 53)).alloc (.cells #[.pointer (some ⟨S,0,none⟩)] 137)) (.cells #[.bool true] 4);rw[World.size_alloc,World.size_alloc]at this;exact this
 have HSu:Hid (∃s,ss[o]?=some s):=⟨su,hsu⟩
 clear h hu hsu hb hS hM hn0;have HEnd:Hid (∀(wr w':World) (cis1:List CliV) (cs1:List CliQ) (vs1:List SrvV) (ss1:List SrvQ) (s1:SrvQ) (b ok:Bool),LisAt wr X sv pt win g sc cv S o T n0 M w (lisJ sv pt win o (cs,ss)) cis1 cs1 vs1 ss1 b→ss1[o]?=some s1→hearO cs1 s1 o= .stop ok→Below wr.heap.size wr w'→CallsD Tryz.prog 93 #[.pointer (some ⟨w.heap.size+1+1,0,none⟩),.pointer (some ⟨w.heap.size,0,none⟩),.pointer (some ⟨w.heap.size+1,0,none⟩)] .returning (w'.setCell ⟨w.heap.size+1+1,0,none⟩ (.bool ok)) fun e u' w2=>u'= .returning∧(e= .returned (.tuple #[])∧LisTo w w2 X sv pt win g sc cv T n0 M (listenJ sv pt win o (cs,ss)))):=fun wr w' cis1 cs1 vs1 ss1 s1 b ok hL hs1 hh hb=>by
  have hL2:=(hL.below hb).set HM.out ok;have ht:=hL2.tg;rw[lisJ_stop (st:=(cs1,ss1)) hs1 hh]at ht;have late:Later w M (footQ X cv cis1 vs1):=fun c hc=>by
   rcases hL2.lat c hc with e|e
   ·exact .inl e
   ·exact .inr (by omega)
  cases ok with
  |true=>
   have e:listenJ sv pt win o (cs,ss)=(cs1,ss1):=by unfold listenJ;rw[←ht];rfl
   rw[e];refine(listen1_yes _ _ _ _ _ (blkCell hL2.b2 0)).mono ?_;rintro e u' w2 ⟨rfl,rfl,rfl⟩;exact⟨rfl,rfl,cis1,vs1,hL2.jun,hL2.len,hL2.bd,hL2.chg,late⟩
  |false=>
   have e:listenJ sv pt win o (cs,ss)=fallJ sv pt win o (cs1,ss1):=by unfold listenJ;rw[←ht];rfl
   rw[e];obtain⟨u1,hu1,hS1⟩:=hL2.at_;have hf:=fall_jun hL2.jun hu1 hs1 hT hL2.bd;rw[hS1]at hf;refine listen1_no _ _ _ X S _ _ _ (blkCell hL2.b2 0) (blkCell hL2.b0 0) (blkCell hL2.b1 0) (hf.mono ?_);rintro e w2 ⟨rfl,cis2,vs2,a1,a2,a3,a4,a5⟩;exact⟨rfl,cis2,vs2,a1,a2.trans hL2.len,a3,hL2.chg.trans a4 late,late.trans a5 hL2.chg.size⟩
 go_enter_defers Tryz.func63,Tryz.ntmps63
 go_wp2_with fail
 generalize ((w.alloc (.cells #[.pointer (some ⟨X,0,none⟩)] 53)).alloc (.cells #[.pointer (some ⟨S,0,none⟩)] 137)).alloc (.cells #[.bool true] 4)=w3 at*;go_loopw [5] (fun _ wr=>∃(cis1:List CliV) (cs1:List CliQ) (vs1:List SrvV) (ss1:List SrvQ) (b:Bool),Hid (LisAt wr X sv pt win g sc cv S o T n0 M w (lisJ sv pt win o (cs,ss)) cis1 cs1 vs1 ss1 b)) (fun _ wr=>heldLenS wr S)
 case atStart=>exact⟨cis,cs,vs,ss,true,H0⟩
 case round=>
  obtain⟨cis1,cs1,vs1,ss1,b,HJ⟩:=hrel;obtain⟨u1,hu1,hS1⟩:=HJ.out.at_;obtain⟨u1',s1,hu1',hs1,hsv⟩:=HJ.out.jun.srv.get (List.getElem?_eq_some_iff.1 hu1).1;rw[hu1]at hu1';cases hu1';have hlen:=hsv.inb.len;rw[hS1]at hlen;have HH:=hear_jun HJ.out.jun hu1 hs1;rw[hS1]at HH;have y1:=blkCell HJ.out.b1 0;have l1:=blkLt HJ.out.b1;have y0:=blkCell HJ.out.b0 0;have l0:=blkLt HJ.out.b0;have y2:=blkCell HJ.out.b2 0;have l2:=blkLt HJ.out.b2;have f2:=blkFree HJ.out.b2 0;simp at y0 y1 y2;have HS1:=hide' (And.intro hu1 (And.intro hS1 (And.intro hs1 hlen)));clear hu1 hS1 hs1 hlen hsv;cases hh:hearO cs1 s1 o using HO.el with
  |stop ok=>
   rw[hh]at HH;simp only at HH;have HHc:=hide' HH;have HHh:=hide' hh;clear HH hh;go_wp2_with fail
   go_at_call 94;refine HHc.out.mono ?_;rintro e w4 ⟨rfl,hb4⟩;have z2:=(hb4.cell (p:=⟨w.heap.size+1+1,0,none⟩) l2).trans y2;have g2:=blkFree ((hb4.block _ l2).trans HJ.out.b2) 0;have m2:=Nat.lt_of_lt_of_le l2 hb4.size;have HB4:=hide' hb4;clear hb4 y0 y1 y2 f2 l0 l1 l2;go_wp2;refine leaves_cons (f:=93) (args:=#[.pointer (some ⟨w.heap.size+1+1,0,none⟩),.pointer (some ⟨w.heap.size,0,none⟩),.pointer (some ⟨w.heap.size+1,0,none⟩)]) (by simp) (by simp[go_sem]) ?_;refine(HEnd.out wr w4 cis1 cs1 vs1 ss1 s1 b ok HJ.out HS1.out.2.2.1 HHh.out HB4.out).mono ?_;rintro e u' w5 ⟨rfl,rfl,hq⟩;exact⟨_,results_none rfl _ _ _,rfl,hq⟩
  |got i k m r=>
   rw[hh]at HH;simp only at HH;have HHc:=hide' HH;have HHh:=hide' hh;clear HH hh;go_wp2_with fail
   go_at_call 94;refine HHc.out.mono ?_;rintro e w4 ⟨v,u',hv,h7,hul,hS',rfl,hj4,hk4,hl4⟩;have hol:=(List.getElem?_eq_some_iff.1 HS1.out.2.2.1).1;have hol2:=(List.getElem?_eq_some_iff.1 HS1.out.1).1;have hL4:=HJ.out.to_ (tgt':=lisJ sv pt win o (anJ cs1 i k m r,ss1.set o {s1 with held:=s1.held.drop r.used})) HM.out hk4 hl4 hj4 ⟨u',List.getElem?_set_self hol2,hS'⟩ HJ.out.len (HJ.out.bd.an i k m o r HS1.out.2.2.1 _) rfl;have hL5:=hL4.set HM.out true;have hRO:=readOn_jun hL5.jun hv hT hL5.bd;have z2:=blkCell hL4.b2 0;have g2:=blkFree hL4.b2 0;have m2:=blkLt hL4.b2;have x0:=blkCell hL5.b0 0;have lx:=blkLt hL5.b0;simp at z2 x0;have HRO:=hide' hRO;have HL5:=hide' (And.intro hL5 (And.intro hv (List.getElem?_set_self hol2 (a:=u'))))
   have HSS:=hide' (And.intro hS' hol2);have HFin:Hid (∀(w6:World) (v':CliV) (vs':List SrvV),JunQ w6 X sv pt win g sc cv (cis1.set i v') (runJ sv pt win i (anJ cs1 i k m r,ss1.set o {s1 with held:=s1.held.drop r.used})).1 vs' (runJ sv pt win i (anJ cs1 i k m r,ss1.set o {s1 with held:=s1.held.drop r.used})).2→BdJ win T (runJ sv pt win i (anJ cs1 i k m r,ss1.set o {s1 with held:=s1.held.drop r.used})).1 (runJ sv pt win i (anJ cs1 i k m r,ss1.set o {s1 with held:=s1.held.drop r.used})).2→Chg (footQ X cv cis1 (vs1.set o u')) (w4.setCell ⟨w.heap.size+1+1,0,none⟩ (.bool true)) w6→Later (w4.setCell ⟨w.heap.size+1+1,0,none⟩ (.bool true)) (footQ X cv cis1 (vs1.set o u')) (footQ X cv (cis1.set i v') vs')→LisAt w6 X sv pt win g sc cv S o T n0 M w (lisJ sv pt win o (cs,ss)) (cis1.set i v') (runJ sv pt win i (anJ cs1 i k m r,ss1.set o {s1 with held:=s1.held.drop r.used})).1 vs' (runJ sv pt win i (anJ cs1 i k m r,ss1.set o {s1 with held:=s1.held.drop r.used})).2 true∧heldLenS w6 S<heldLenS wr S):=fun w6 v' vs' a1 a2 a3 a4=>by
    obtain⟨u6,hu6,hS6⟩:=HL5.out.1.jun.sameS a1 a3 HL5.out.2.2;have hS6':u6.S=S:=hS6.trans HSS.out.1;have htg:lisJ sv pt win o (runJ sv pt win i (anJ cs1 i k m r,ss1.set o {s1 with held:=s1.held.drop r.used}))=lisJ sv pt win o (cs,ss):=by
     rw[←HJ.out.tg];exact(lisJ_got (st:=(cs1,ss1)) HS1.out.2.2.1 HHh.out).symm
    refine⟨HL5.out.1.to_ HM.out a3 a4 a1 ⟨u6,hu6,hS6'⟩ (by rw[List.length_set];exact HJ.out.len) a2 htg,?_⟩;obtain⟨s',b1,b2,_,b4⟩:=got_held (sv:=sv) (pt:=pt) (win:=win) (st:=(cs1,ss1)) HS1.out.2.2.1 HHh.out;have hl6:=(a1.srv.ok o u6 s' hu6 b1).inb.len;rw[hS6']at hl6;rw[hl6,HS1.out.2.2.2];exact b4
   obtain⟨C,hC⟩:∃C,v.k.C=C:=⟨_,rfl⟩
   rw[hC]at HRO⊢;clear hv h7 hul hS' hj4 hk4 hl4 hol hol2 hL4 hL5 hRO y0 y1 y2 l0 l1 l2 f2 hC HHc;go_wp2_with fail
   generalize w4.setCell ⟨w.heap.size+1+1,0,none⟩ (.bool true)=w5 at*;go_at_call 59;refine HRO.out.mono ?_;rintro e w6 ⟨rfl,v',vs',a0,a1,a2,a3,a4⟩;have HF:=hide' (HFin.out w6 v' vs' a1 a2 a3 a4);clear a0 a1 a2 a3 a4;go_wp2;go_roundw;case rel=>exact⟨_,_,_,_,_,HF.out.1⟩
   case measure=>exact HF.out.2
set_option maxHeartbeats 1000000
set_option maxRecDepth 100000
variable {o T:Nat}{u:SrvV}{su s':SrvQ}
section
variable {w:World}{X sv pt win g sc:Nat}{cv:Value}{cis:List CliV}{cs:List CliQ}{vs:List SrvV}{ss:List SrvQ}
theorem JunQ.srvAt (h:JunQ w X sv pt win g sc cv cis cs vs ss)(ho:o<sv):∃u su,vs[o]?=some u∧ss[o]?=some su∧w.cell? ⟨g,o,none⟩=some (.pointer (some ⟨u.S,0,none⟩))∧w.cell? ⟨u.S,0,none⟩=some (.bool (!su.up))∧u.S<w.heap.size∧g<w.heap.size:=by
 obtain⟨u,su,hu,hsu,hok⟩:=h.srv.get (j:=o) (by rw[h.len];exact ho);obtain⟨Zg,g1,g2⟩:=h.gb;obtain⟨iv,iu,ip,ic,hb⟩:=hok.blk;exact⟨u,su,hu,hsu,(blkCell g1 o).trans (g2 o u hu),(svCells hb).1,blkLt hb,blkLt g1⟩
theorem standing_no (h:JunQ w X sv pt win g sc cv cis cs vs ss)(k:Int)(hk:k<0∨(sv:Int)≤k):Calls Tryz.prog 62 #[.pointer (some ⟨X,0,none⟩),.int .i64 k] w fun e w'=>e= .returned (.tuple #[.pointer none,.int .i64 1])∧w'=w:=by
 have c4:=(juCells h.blk).2.2.2.2.1;have hlt:=blkLt h.blk;have HN:=hide' (at_no 60 (.inr rfl) (some ⟨g,0,none⟩) sv sc k w (by have:=h.s4;omega) hk);clear h hk;go_enter Tryz.func62,Tryz.ntmps62;go_wp2_with fail
 go_at_call 60;refine HN.out.mono ?_;rintro e w1 ⟨rfl,hw1⟩;subst hw1;go_wp2;go_ret2;exact⟨rfl,rfl⟩
theorem standing_yes (h:JunQ w X sv pt win g sc cv cis cs vs ss)(hu:vs[o]?=some u)(hsu:ss[o]?=some su):Calls Tryz.prog 62 #[.pointer (some ⟨X,0,none⟩),.int .i64 (o:Int)] w fun e w'=>e= .returned (if su.up=true then .tuple #[.pointer (some ⟨u.S,0,none⟩),.int .i64 0]else .tuple #[.pointer none,.int .i64 2])∧w'=w:=by
 have ho:o<sv:=by rw[←h.len];exact(List.getElem?_eq_some_iff.1 hu).1
 obtain⟨u',su',e1,e2,cg,cu,hl1,hl2⟩:=h.srvAt ho;rw[hu]at e1;cases e1;rw[hsu]at e2;cases e2;have c4:=(juCells h.blk).2.2.2.2.1;have hlt:=blkLt h.blk;have HN:=hide' (at_yes 60 (.inr rfl) g sv sc o u.S w (by have:=h.s4;omega) ho cg hl2);clear h hu hsu;cases hup:su.up with
 |true=>
  rw[hup]at cu;simp only[Bool.not_true]at cu;clear hup;go_enter Tryz.func62,Tryz.ntmps62;go_wp2_with fail
  go_at_call 60;refine HN.out.mono ?_;rintro e w1 ⟨rfl,hw1⟩;subst hw1;go_wp2;go_ret2;exact⟨rfl,rfl⟩
 |false=>
  rw[hup]at cu;simp only[Bool.not_false]at cu;clear hup;go_enter Tryz.func62,Tryz.ntmps62;go_wp2_with fail
  go_at_call 60;refine HN.out.mono ?_;rintro e w1 ⟨rfl,hw1⟩;subst hw1;go_wp2;go_ret2;exact⟨rfl,rfl⟩
theorem JunQ.srvPut {W':World}(h:JunQ w X sv pt win g sc cv cis cs vs ss){u':SrvV}(hu:vs[o]?=some u)(k:Chg u.foot w W')(hn:SrvAt W' u' s')(hl:Later w u.foot u'.foot)(hS:u'.S=u.S)(hL:u'.l=u.l):JunQ W' X sv pt win g sc cv cis cs (vs.set o u') (ss.set o s')∧Chg (footQ X cv cis vs) w W'∧Later w (footQ X cv cis vs) (footQ X cv cis (vs.set o u')):=by
 have hol:=(List.getElem?_eq_some_iff.1 hu).1;have huf:∀b∈u.foot,b∈feetS vs:=fun b hb=>mem_feetS.2 ⟨o,u,hu,hb⟩
 obtain⟨nx1,nx2,nx3⟩:=h.nX;obtain⟨Zg,g1,g2⟩:=h.gb;obtain⟨r1,r2⟩:=h.srv.step hu k hn hl;refine⟨⟨k.keep h.blk (fun e=>nx2 (huf X e)),⟨Zg,k.keep g1 (fun e=>nx3 (huf g e)),fun j z hz=>?_⟩,by rw[List.length_set];exact h.len,h.s1,h.s4,h.sc_,h.pt_,h.w6,ownsRow_other h.row (fun gg hg=>?_),h.cl,h.c4,fun j z y hz hy=>?_,h.cap,r1,fun j z hz b hb hm'=>?_,fun o' z hz=>?_,h.wl⟩,k.more (fun b hb=>by unfold footQ;exact List.mem_cons_of_mem _ (List.mem_append.2 (.inr (List.mem_append.2 (.inr (huf b hb)))))),fun b hb=>?_⟩
 ·rw[List.getElem?_set]at hz;split at hz
  ·rename_i e;subst e;simp at hz;subst hz;rw[hS];exact g2 o u hu
  ·exact g2 j z hz
 ·obtain⟨b1,b2,b3⟩:=h.nRow hg;exact k.block gg b1 (fun e=>b3 (huf gg e))
 ·exact(h.cli j z y hz hy).keep (fun b hb=>k.block b (civ_old h hz b hb) (fun e=>h.ap j z hz b hb (huf b e)))
 ·rcases r2 b hm' with h3|h3
  ·exact h.ap j z hz b hb h3
  ·have:=civ_old h hz b hb;omega
 ·rw[List.getElem?_set]at hz;split at hz
  ·rename_i e;subst e;simp at hz;subst hz;rw[hL];exact h.mr o u hu
  ·exact h.mr o' z hz
 ·unfold footQ at hb⊢;rcases List.mem_cons.1 hb with e|hb
  ·exact .inl (by rw[e];simp)
  rcases List.mem_append.1 hb with hb|hb
  ·exact .inl (List.mem_cons_of_mem _ (List.mem_append.2 (.inl hb)))
  rcases List.mem_append.1 hb with hb|hb
  ·exact .inl (List.mem_cons_of_mem _ (List.mem_append.2 (.inr (List.mem_append.2 (.inl hb)))))
  ·rcases r2 b hb with h3|h3
   ·exact .inl (List.mem_cons_of_mem _ (List.mem_append.2 (.inr (List.mem_append.2 (.inr h3)))))
   ·exact .inr h3
theorem BdJ.srvSet {win:Nat}{cs:List CliQ}{ss:List SrvQ}(h:BdJ win T cs ss){s:SrvQ}(hs:ss[o]?=some s)(h1:s'.next=s.next)(h2:s'.sent=s.sent):BdJ win T cs (ss.set o s'):=
 ⟨h.told,h.wl,fun u hu=>by
  rcases List.mem_or_eq_of_mem_set hu with e|e
  ·exact h.srv u e
  ·rw[e,h1,h2];exact h.srv s (List.mem_of_getElem? hs)⟩
def answeredJ (sv pt win o:Nat)(piece:List UInt8)(st:List CliQ×List SrvQ):List CliQ×List SrvQ:=match st.2[o]?with
 |none=>st
 |some s=>listenJ sv pt win o (st.1,st.2.set o {s with held:=s.held++piece})
theorem answer_no (h:JunQ w X sv pt win g sc cv cis cs vs ss)(k:Int)(piece:ByteArray)(hk:k<0∨(sv:Int)≤k):Calls Tryz.prog 32 #[.pointer (some ⟨X,0,none⟩),.int .i64 k,.string piece] w fun e w'=>e= .returned (.int .i64 1)∧w'=w:=by
 have HN:=hide' (standing_no h k hk);clear h hk;go_enter Tryz.func32,Tryz.ntmps32;go_wp2_with fail
 go_at_call 62;refine HN.out.mono ?_;rintro e w1 ⟨rfl,hw1⟩;subst hw1;go_wp2;go_ret;exact⟨rfl,rfl⟩
theorem answer_down (h:JunQ w X sv pt win g sc cv cis cs vs ss)(hsu:ss[o]?=some su)(piece:ByteArray)(hup:su.up=false):Calls Tryz.prog 32 #[.pointer (some ⟨X,0,none⟩),.int .i64 (o:Int),.string piece] w fun e w'=>e= .returned (.int .i64 2)∧w'=w:=by
 obtain⟨u,hu⟩:∃u,vs[o]?=some u:=⟨_,List.getElem?_eq_getElem (by rw[h.srv.len];exact(List.getElem?_eq_some_iff.1 hsu).1)⟩
 have HN:=standing_yes h hu hsu;rw[if_neg (by simp[hup])]at HN;have HN:=hide' HN;clear h hup;go_enter Tryz.func32,Tryz.ntmps32;go_wp2_with fail
 go_at_call 62;refine HN.out.mono ?_;rintro e w1 ⟨rfl,hw1⟩;subst hw1;go_wp2;go_ret;exact⟨rfl,rfl⟩
theorem answer_up (h:JunQ w X sv pt win g sc cv cis cs vs ss)(hsu:ss[o]?=some su)(piece:ByteArray)(hup:su.up=true)(hT:T+5000≤100000000000)(hb:BdJ win T cs ss)(h2:2*su.held.length+piece.size≤140737488355328):Calls Tryz.prog 32 #[.pointer (some ⟨X,0,none⟩),.int .i64 (o:Int),.string piece] w fun e w'=>e= .returned (.int .i64 0)∧LisTo w w' X sv pt win g sc cv T cis.length (footQ X cv cis vs) (answeredJ sv pt win o piece.data.toList (cs,ss)):=by
 obtain⟨u,hu⟩:∃u,vs[o]?=some u:=⟨_,List.getElem?_eq_getElem (by rw[h.srv.len];exact(List.getElem?_eq_some_iff.1 hsu).1)⟩
 have hol:=(List.getElem?_eq_some_iff.1 hu).1;have hol2:=(List.getElem?_eq_some_iff.1 hsu).1;have hsv:=h.srv.ok o u su hu hsu;have HN:=standing_yes h hu hsu;rw[if_pos hup]at HN;have HN:=hide' HN;have HTk:=hide' (sTake_any u.S _ u.hb su.held piece w hsv.inb h2);have HLs:Hid (∀w1,SInTo w w1 u.S u.hb ⟨!su.up,su.next,u.m,u.bp,u.bv⟩ ⟨su.held++piece.data.toList,false,false⟩→Calls Tryz.prog 63 #[.pointer (some ⟨X,0,none⟩),.pointer (some ⟨u.S,0,none⟩)] w1 fun e w'=>e= .returned (.tuple #[])∧LisTo w w' X sv pt win g sc cv T cis.length (footQ X cv cis vs) (answeredJ sv pt win o piece.data.toList (cs,ss))):=fun w1 hto=>by
  obtain⟨⟨hb',hR,hF⟩,hTn⟩:=hto;obtain⟨n1,n2,n3,n4,n5⟩:=hsv.nS;have k:Chg (u.S::u.hb.toList) w w1:=⟨hTn.os,hTn.tape,hTn.output,hTn.size,fun b hb hn=>hTn.block b hb (fun e=>hn (by simp[e])) (fun e=>hn (by simp[←e]))⟩
  have kf:Chg u.foot w w1:=k.more (fun b hb=>by simp[SrvV.foot]at hb⊢;rcases hb with e|e<;>simp[e]);have hnew:SrvAt w1 {u with hb:=hb'} {su with held:=su.held++piece.data.toList}:=by
   refine⟨hR,hsv.mp.other (k.block _ (hsv.old _ (by simp[SrvV.foot])) (fun hm=>?_)),hsv.bpv,hsv.row.other (fun b hb=>k.block b (hsv.old b (by simp[SrvV.foot,hb])) (fun hm=>?_)),hsv.nx,fun b hb hb2=>?_⟩
   ·simp at hm;rcases hm with e|e
    ·exact n1 e.symm
    ·exact n4 e
   ·simp at hm;rcases hm with e|e
    ·exact n3 (by rw[hb,e])
    ·exact hsv.ab b hb e
   ·simp only at hb hb2;rcases hF with e|e|⟨j,e,hj⟩
    ·exact hsv.ab b hb (by rw[←e];exact hb2)
    ·rw[e]at hb2;cases hb2
    ·rw[e]at hb2;cases hb2;have:=hsv.old b (by simp[SrvV.foot,hb]);omega
  have hlu:Later w u.foot (SrvV.foot {u with hb:=hb'}):=fun b hb=>by
   unfold SrvV.foot at hb⊢;simp at hb⊢;rcases hb with e|e|e|e
   ·simp[e]
   ·simp[e]
   ·rcases hF with e2|e2|⟨j,e2,hj⟩
    ·rw[e2]at e;simp[e]
    ·rw[e2]at e;cases e
    ·rw[e2]at e;cases e;exact .inr hj
   ·simp[e]
  obtain⟨r1,r2,r3⟩:=h.srvPut hu kf hnew hlu rfl rfl;have hls:=listen_jun r1 (List.getElem?_set_self hol) (List.getElem?_set_self hol2) hT (hb.srvSet hsu rfl rfl);refine hls.mono ?_;rintro e w' ⟨rfl,cis',vs',a1,a2,a3,a4,a5⟩;have e:answeredJ sv pt win o piece.data.toList (cs,ss)=listenJ sv pt win o (cs,ss.set o {su with held:=su.held++piece.data.toList}):=by unfold answeredJ;simp only[hsu]
  rw[e];exact⟨rfl,cis',vs',a1,a2,a3,r2.trans a4 r3,r3.trans a5 r2.size⟩
 obtain⟨iv,iu,ip,ic,hbk⟩:=hsv.blk;have hlt:=blkLt hbk;generalize u.S=S at*;clear h hu hsu hup hb hol hol2 hsv hbk;go_enter Tryz.func32,Tryz.ntmps32;go_wp2_with fail
 go_at_call 62;refine HN.out.mono ?_;rintro e w1 ⟨rfl,hw1⟩;subst hw1;go_wp2_with fail
 go_at_call 58;refine HTk.out.mono ?_;rintro e w2 ⟨rfl,hto⟩;have HR2:=hide' (HLs.out w2 hto);clear hto;go_wp2_with fail
 go_at_call 63;refine HR2.out.mono ?_;rintro e w3 ⟨rfl,hfin⟩;have HF:=hide' hfin;clear hfin;go_wp2;go_ret;exact⟨rfl,HF.out⟩
theorem down_no (h:JunQ w X sv pt win g sc cv cis cs vs ss)(k:Int)(hk:k<0∨(sv:Int)≤k):Calls Tryz.prog 33 #[.pointer (some ⟨X,0,none⟩),.int .i64 k] w fun e w'=>e= .returned (.int .i64 1)∧w'=w:=by
 have HN:=hide' (standing_no h k hk);clear h hk;go_enter Tryz.func33,Tryz.ntmps33;go_wp2_with fail
 go_at_call 62;refine HN.out.mono ?_;rintro e w1 ⟨rfl,hw1⟩;subst hw1;go_wp2;go_ret;exact⟨rfl,rfl⟩
theorem down_down (h:JunQ w X sv pt win g sc cv cis cs vs ss)(hsu:ss[o]?=some su)(hup:su.up=false):Calls Tryz.prog 33 #[.pointer (some ⟨X,0,none⟩),.int .i64 (o:Int)] w fun e w'=>e= .returned (.int .i64 2)∧w'=w:=by
 obtain⟨u,hu⟩:∃u,vs[o]?=some u:=⟨_,List.getElem?_eq_getElem (by rw[h.srv.len];exact(List.getElem?_eq_some_iff.1 hsu).1)⟩
 have HN:=standing_yes h hu hsu;rw[if_neg (by simp[hup])]at HN;have HN:=hide' HN;clear h hup;go_enter Tryz.func33,Tryz.ntmps33;go_wp2_with fail
 go_at_call 62;refine HN.out.mono ?_;rintro e w1 ⟨rfl,hw1⟩;subst hw1;go_wp2;go_ret;exact⟨rfl,rfl⟩
theorem down_up (h:JunQ w X sv pt win g sc cv cis cs vs ss)(hsu:ss[o]?=some su)(hup:su.up=true)(hT:T+5000≤100000000000)(hb:BdJ win T cs ss):Calls Tryz.prog 33 #[.pointer (some ⟨X,0,none⟩),.int .i64 (o:Int)] w fun e w'=>e= .returned (.int .i64 0)∧LisTo w w' X sv pt win g sc cv T cis.length (footQ X cv cis vs) (fallJ sv pt win o (cs,ss)):=by
 obtain⟨u,hu⟩:∃u,vs[o]?=some u:=⟨_,List.getElem?_eq_getElem (by rw[h.srv.len];exact(List.getElem?_eq_some_iff.1 hsu).1)⟩
 have HN:=standing_yes h hu hsu;rw[if_pos hup]at HN;have HN:=hide' HN;have HF:=hide' (fall_jun h hu hsu hT hb);generalize u.S=S at*;clear h hu hsu hup hb;go_enter Tryz.func33,Tryz.ntmps33;go_wp2_with fail
 go_at_call 62;refine HN.out.mono ?_;rintro e w1 ⟨rfl,hw1⟩;subst hw1;go_wp2_with fail
 go_at_call 64;refine HF.out.mono ?_;rintro e w2 ⟨rfl,hfin⟩;have HF2:=hide' hfin;clear hfin;go_wp2;go_ret;exact⟨rfl,HF2.out⟩
theorem up_no (h:JunQ w X sv pt win g sc cv cis cs vs ss)(k:Int)(hk:k<0∨(sv:Int)≤k):Calls Tryz.prog 34 #[.pointer (some ⟨X,0,none⟩),.int .i64 k] w fun e w'=>e= .returned (.int .i64 1)∧w'=w:=by
 have c4:=(juCells h.blk).2.2.2.2.1;have hlt:=blkLt h.blk;have HN:=hide' (at_no 60 (.inr rfl) (some ⟨g,0,none⟩) sv sc k w (by have:=h.s4;omega) hk);clear h hk;go_enter Tryz.func34,Tryz.ntmps34;go_wp2_with fail
 go_at_call 60;refine HN.out.mono ?_;rintro e w1 ⟨rfl,hw1⟩;subst hw1;go_wp2;go_ret;exact⟨rfl,rfl⟩
def uppedJ (o:Nat)(ss:List SrvQ):List SrvQ:=match ss[o]?with
 |none=>ss
 |some s=>ss.set o {s with up:=true}
theorem up_up (h:JunQ w X sv pt win g sc cv cis cs vs ss)(hsu:ss[o]?=some su)(hup:su.up=true):Calls Tryz.prog 34 #[.pointer (some ⟨X,0,none⟩),.int .i64 (o:Int)] w fun e w'=>e= .returned (.int .i64 3)∧w'=w:=by
 obtain⟨u,hu⟩:∃u,vs[o]?=some u:=⟨_,List.getElem?_eq_getElem (by rw[h.srv.len];exact(List.getElem?_eq_some_iff.1 hsu).1)⟩
 have ho:o<sv:=by rw[←h.len];exact(List.getElem?_eq_some_iff.1 hu).1
 obtain⟨u',su',e1,e2,cg,cu,hl1,hl2⟩:=h.srvAt ho;rw[hu]at e1;cases e1;rw[hsu]at e2;cases e2;rw[hup]at cu;simp only[Bool.not_true]at cu;have c4:=(juCells h.blk).2.2.2.2.1;have hlt:=blkLt h.blk;have HN:=hide' (at_yes 60 (.inr rfl) g sv sc o u.S w (by have:=h.s4;omega) ho cg hl2);clear h hu hsu hup;go_enter Tryz.func34,Tryz.ntmps34;go_wp2_with fail
 go_at_call 60;refine HN.out.mono ?_;rintro e w1 ⟨rfl,hw1⟩;subst hw1;go_wp2;go_ret;exact⟨rfl,rfl⟩
theorem up_down (h:JunQ w X sv pt win g sc cv cis cs vs ss)(hsu:ss[o]?=some su)(hup:su.up=false)(hb:BdJ win T cs ss):Calls Tryz.prog 34 #[.pointer (some ⟨X,0,none⟩),.int .i64 (o:Int)] w fun e w'=>e= .returned (.int .i64 0)∧LisTo w w' X sv pt win g sc cv T cis.length (footQ X cv cis vs) (cs,uppedJ o ss):=by
 obtain⟨u,hu⟩:∃u,vs[o]?=some u:=⟨_,List.getElem?_eq_getElem (by rw[h.srv.len];exact(List.getElem?_eq_some_iff.1 hsu).1)⟩
 have ho:o<sv:=by rw[←h.len];exact(List.getElem?_eq_some_iff.1 hu).1
 obtain⟨u',su',e1,e2,cg,cu,hl1,hl2⟩:=h.srvAt ho;rw[hu]at e1;cases e1;rw[hsu]at e2;cases e2;rw[hup]at cu;simp only[Bool.not_false]at cu;have c4:=(juCells h.blk).2.2.2.2.1;have hlt:=blkLt h.blk;have HN:=hide' (at_yes 60 (.inr rfl) g sv sc o u.S w (by have:=h.s4;omega) ho cg hl2);have hsv:=h.srv.ok o u su hu hsu;obtain⟨⟨iv,iu,hD,HH,hz⟩,hne⟩:=hsv.inb;have fr:=blkFree hD 0;have HFin:Hid (LisTo w (w.setCell ⟨u.S,0,none⟩ (.bool false)) X sv pt win g sc cv T cis.length (footQ X cv cis vs) (cs,uppedJ o ss)):=by
  have k:Chg [u.S] w (w.setCell ⟨u.S,0,none⟩ (.bool false)):=(Chg.refl _ w).set (.inl (by simp)) _;obtain⟨n1,n2,n3,n4,n5⟩:=hsv.nS;have hD2:(w.setCell ⟨u.S,0,none⟩ (.bool false)).heap[u.S]?=some (svP ⟨false,su.next,u.m,u.bp,u.bv⟩ iv iu false false):=(blkSet (i:=0) hD _).trans rfl;have hnew:SrvAt (w.setCell ⟨u.S,0,none⟩ (.bool false)) u {su with up:=true}:=by
   refine⟨⟨⟨iv,iu,hD2,HH.other (fun b hb=>k.block b (hsv.old b (by simp[SrvV.foot,hb])) (by simp;exact fun e=>n2 (by rw[hb,e]))),hz⟩,hne⟩,hsv.mp.other (k.block _ hsv.mp.lt (by simp;exact fun e=>n1 e.symm)),hsv.bpv,hsv.row.other (fun b hb=>k.block b (hsv.old b (by simp[SrvV.foot,hb])) (by simp;exact fun e=>n3 (by rw[hb,e]))),hsv.nx,hsv.ab⟩
  obtain⟨r1,r2,r3⟩:=h.srvPut hu (k.more (fun b hb=>by simp at hb;rw[hb];simp[SrvV.foot])) hnew (Later.refl _ _) rfl rfl;have e:uppedJ o ss=ss.set o {su with up:=true}:=by unfold uppedJ;rw[hsu]
  exact⟨cis,_,by simp only[e];exact r1,rfl,by simp only[e];exact hb.srvSet hsu rfl rfl,r2,r3⟩
 generalize u.S=S at*;clear h hu hsu hup hsv hD HH hz hne hb;go_enter Tryz.func34,Tryz.ntmps34;go_wp2_with fail
 go_at_call 60;refine HN.out.mono ?_;rintro e w1 ⟨rfl,hw1⟩;subst hw1;go_wp2;go_ret;exact⟨rfl,HFin.out⟩
end
end Go.Proofs.YtlonjggfnleolaaGreatDoor
namespace Go.Proofs.YtlonjggfnleolaaGreatDoor
open Go.RowKit Go.Shelf
set_option linter.unusedVariables false
set_option maxHeartbeats 1000000
set_option maxRecDepth 100000
variable {o S i:Nat}{s:SrvQ}
def DialQ (cs:List CliQ):Prop:=∀s∈cs,s.d=1∨s.d=2∨s.d=3
section
variable {w:World}{X sv pt win:Nat}{cv rv:Value}{cis:List RCliV}{cs:List CliQ}{vs:List Nat}{ss:List SrvQ}
theorem RJunQ.srvAt (h:RJunQ w X sv pt win cv rv cis cs vs ss)(hs:ss[o]?=some s):∃S g c,vs[o]?=some S∧rv= .slice (some ⟨g,0,none⟩) vs.length c∧g<w.heap.size∧w.cell? ⟨g,o,none⟩=some (.pointer (some ⟨S,0,none⟩))∧w.heap[S]?=some (rsO s.up s.next (mkB s.held) s.sent):=by
 have ho:o<vs.length:=by rw[h.len,←h.sl];exact(List.getElem?_eq_some_iff.1 hs).1
 have hv:vs[o]?=some vs[o]:=List.getElem?_eq_getElem ho;obtain⟨g,c,e,hgl,hg⟩:=row_at h.srow (by simp) (i:=o) (x:=ptrV vs[o]) (by rw[List.getElem?_map,hv];rfl);exact⟨vs[o],g,c,hv,e,hgl,hg,h.srv o _ s hv hs⟩
theorem RJunQ.srvSet {W':World}{s':SrvQ}(h:RJunQ w X sv pt win cv rv cis cs vs ss)(hv:vs[o]?=some S)(hs:ss[o]?=some s)(k:Chg [S] w W')(hb:W'.heap[S]?=some (rsO s'.up s'.next (mkB s'.held) s'.sent))(hx:s'.next<65536):RJunQ W' X sv pt win cv rv cis cs vs (ss.set o s')∧Chg (footRJ X cv cis vs) w W':=by
 have hm:∀b∈[S],b∈vs:=fun b hb=>by simp at hb;rw[hb];exact List.mem_of_getElem? hv
 have ho:=(List.getElem?_eq_some_iff.1 hs).1;refine⟨h.srvs (k.more hm) (fun j S' s1 hS' hs1=>?_) (by simp) (fun u hu=>?_),k.more (fun b hb=>mem_footRJ.2 (.inr (.inr (.inr (hm b hb)))))⟩
 ·by_cases e:o=j
  ·subst e;rw[List.getElem?_set_self ho]at hs1;rw[hv]at hS';cases hS';cases hs1;exact hb
  ·rw[List.getElem?_set_ne e]at hs1;have h1:=h.srv j S' s1 hS' hs1;refine(k.block S' (blkLt h1) (fun hm=>?_)).trans h1;simp at hm;subst hm;exact e ((List.getElem?_inj (List.getElem?_eq_some_iff.1 hv).1 h.sap).1 (hv.trans hS'.symm))
 ·rcases List.mem_or_eq_of_mem_set hu with h1|h1
  ·exact h.nx u h1
  ·rw[h1];exact hx
theorem rtoldQ_no (h:RJunQ w X sv pt win cv rv cis cs vs ss)(k:Int)(hk:k<0∨(cis.length:Int)≤k):Calls Tryz.prog 113 #[.pointer (some ⟨X,0,none⟩),.int .i64 k] w fun e w'=>e= .returned (.tuple #[.string ⟨#[]⟩,.int .i64 1])∧w'=w:=by
 obtain⟨a,c,rfl⟩:=row_form h.crow;have hb:=h.blk;unfold rjO at hb;have hn:=h.c4;have c3:=blkCell hb 3;simp at c3;have hlt:=blkLt hb;clear h hb;by_cases h0:k<0
 ·go_enter Tryz.func113,Tryz.ntmps113;go_wp2;go_ret2;exact⟨rfl,rfl⟩
 ·have h1:(cis.length:Int)≤k:=by omega
  go_enter Tryz.func113,Tryz.ntmps113;go_wp2;go_ret2;exact⟨rfl,rfl⟩
theorem rtoldQ_yes (h:RJunQ w X sv pt win cv rv cis cs vs ss){v:RCliV}{s:CliQ}(hv:cis[i]?=some v)(hs:cs[i]?=some s):Calls Tryz.prog 113 #[.pointer (some ⟨X,0,none⟩),.int .i64 (i:Int)] w fun e w'=>e= .returned (.tuple #[.string (mkB s.told),.int .i64 0])∧w'=w:=by
 have hi:=(List.getElem?_eq_some_iff.1 hv).1;obtain⟨g,c,rfl,hgl,hg⟩:=row_at h.crow (by simp) (i:=i) (x:=ptrV v.K) (by rw[List.getElem?_map,hv];rfl);unfold ptrV at hg;have hb:=h.blk;unfold rjO at hb;have hn:=h.c4;have c3:=blkCell hb 3;simp at c3;have hlt:=blkLt hb;have hK:=(h.cli i v s hv hs).blk;unfold rcO at hK;have k3:=blkCell hK 3;simp at k3;have hKl:=blkLt hK;have h0:¬(i:Int)<0:=by omega
 have h1:¬(cis.length:Int)≤(i:Int):=by omega
 have h2:(i:Int)<(cis.length:Int):=by omega
 clear h hb hK;go_enter Tryz.func113,Tryz.ntmps113;go_wp2;go_ret2;exact⟨rfl,rfl⟩
theorem rsentQ_no (h:RJunQ w X sv pt win cv rv cis cs vs ss)(k:Int)(hk:k<0∨(sv:Int)≤k):Calls Tryz.prog 114 #[.pointer (some ⟨X,0,none⟩),.int .i64 k] w fun e w'=>e= .returned (.tuple #[.string ⟨#[]⟩,.int .i64 1])∧w'=w:=by
 obtain⟨a,c,rfl⟩:=row_form h.srow;have hb:=h.blk;unfold rjO at hb;have c4:=blkCell hb 4;simp at c4;rw[h.len]at c4;have hlt:=blkLt hb;have h4:=h.s4;clear h hb;by_cases h0:k<0
 ·go_enter Tryz.func114,Tryz.ntmps114;go_wp2;go_ret2;exact⟨rfl,rfl⟩
 ·have h1:(sv:Int)≤k:=by omega
  go_enter Tryz.func114,Tryz.ntmps114;go_wp2;go_ret2;exact⟨rfl,rfl⟩
theorem rsentQ_yes (h:RJunQ w X sv pt win cv rv cis cs vs ss)(hv:vs[i]?=some S)(hs:ss[i]?=some s):Calls Tryz.prog 114 #[.pointer (some ⟨X,0,none⟩),.int .i64 (i:Int)] w fun e w'=>e= .returned (.tuple #[.string (mkB s.sent),.int .i64 0])∧w'=w:=by
 have hi:=(List.getElem?_eq_some_iff.1 hv).1;obtain⟨g,c,rfl,hgl,hg⟩:=row_at h.srow (by simp) (i:=i) (x:=ptrV S) (by rw[List.getElem?_map,hv];rfl);unfold ptrV at hg;have hb:=h.blk;unfold rjO at hb;have c4:=blkCell hb 4;simp at c4;have hlt:=blkLt hb;have hK:=h.srv i S s hv hs;unfold rsO at hK;have k3:=blkCell hK 3;simp at k3;have hKl:=blkLt hK;have h4:=h.s4;have hll:=h.len;have h0:¬(i:Int)<0:=by omega
 have h1:¬(vs.length:Int)≤(i:Int):=by omega
 have h2:(i:Int)<(vs.length:Int):=by omega
 have h5:vs.length≤4:=by omega
 clear h hb hK hll;go_enter Tryz.func114,Tryz.ntmps114;go_wp2;go_ret2;exact⟨rfl,rfl⟩
theorem rupQ_no (h:RJunQ w X sv pt win cv rv cis cs vs ss)(k:Int)(hk:k<0∨(sv:Int)≤k):Calls Tryz.prog 118 #[.pointer (some ⟨X,0,none⟩),.int .i64 k] w fun e w'=>e= .returned (.int .i64 1)∧w'=w:=by
 obtain⟨a,c,rfl⟩:=row_form h.srow;have hb:=h.blk;unfold rjO at hb;have c4:=blkCell hb 4;simp at c4;rw[h.len]at c4;have hlt:=blkLt hb;have h4:=h.s4;clear h hb;by_cases h0:k<0
 ·go_enter Tryz.func118,Tryz.ntmps118;go_wp2;go_ret;exact⟨rfl,rfl⟩
 ·have h1:(sv:Int)≤k:=by omega
  go_enter Tryz.func118,Tryz.ntmps118;go_wp2;go_ret;exact⟨rfl,rfl⟩
theorem rupQ_up (h:RJunQ w X sv pt win cv rv cis cs vs ss)(hs:ss[o]?=some s)(hup:s.up=true):Calls Tryz.prog 118 #[.pointer (some ⟨X,0,none⟩),.int .i64 (o:Int)] w fun e w'=>e= .returned (.int .i64 3)∧w'=w:=by
 obtain⟨S,g,c,hv,rfl,hgl,hg,hK⟩:=h.srvAt hs;have hi:=(List.getElem?_eq_some_iff.1 hv).1;have hb:=h.blk;unfold rjO at hb;have c4:=blkCell hb 4;simp at c4;have hlt:=blkLt hb;unfold rsO at hK;have k0:=blkCell hK 0;simp[hup]at k0;have hKl:=blkLt hK;have h4:=h.s4;have hll:=h.len;have h0:¬(o:Int)<0:=by omega
 have h1:¬(vs.length:Int)≤(o:Int):=by omega
 have h2:(o:Int)<(vs.length:Int):=by omega
 have h5:vs.length≤4:=by omega
 clear h hb hK hll;go_enter Tryz.func118,Tryz.ntmps118;go_wp2;go_ret;exact⟨rfl,rfl⟩
theorem rupQ_down (h:RJunQ w X sv pt win cv rv cis cs vs ss)(hs:ss[o]?=some s)(hup:s.up=false):Calls Tryz.prog 118 #[.pointer (some ⟨X,0,none⟩),.int .i64 (o:Int)] w fun e w'=>e= .returned (.int .i64 0)∧RJunQ w' X sv pt win cv rv cis cs vs (uppedJ o ss)∧Chg (footRJ X cv cis vs) w w':=by
 obtain⟨S,g,c,hv,rfl,hgl,hg,hK⟩:=h.srvAt hs;have hi:=(List.getElem?_eq_some_iff.1 hv).1;have hb:=h.blk;unfold rjO at hb;have c4:=blkCell hb 4;simp at c4;have hlt:=blkLt hb;have hF:RJunQ (w.setCell ⟨S,0,none⟩ (.bool true)) X sv pt win cv (.slice (some ⟨g,0,none⟩) vs.length c) cis cs vs (uppedJ o ss)∧Chg (footRJ X cv cis vs) w (w.setCell ⟨S,0,none⟩ (.bool true)):=by
  have e:uppedJ o ss=ss.set o {s with up:=true}:=by unfold uppedJ;rw[hs]
  rw[e];exact h.srvSet hv hs ((Chg.refl _ w).set (.inl (by simp)) _) ((blkSet (i:=0) hK _).trans rfl) (h.nx s (List.mem_of_getElem? hs))
 have HF:=hide' hF;unfold rsO at hK;have k0:=blkCell hK 0;simp[hup]at k0;have kf:=blkFree hK;have hKl:=blkLt hK;have h4:=h.s4;have hll:=h.len;have h0:¬(o:Int)<0:=by omega
 have h1:¬(vs.length:Int)≤(o:Int):=by omega
 have h2:(o:Int)<(vs.length:Int):=by omega
 have h5:vs.length≤4:=by omega
 clear h hb hK hll hF;go_enter Tryz.func118,Tryz.ntmps118;go_wp2;go_ret;exact⟨rfl,HF.out⟩
end
variable {X b sv pt win g sc T T' H i o lo B:Nat}{cv jv:Value}{cis:List CliV}{vs:List SrvV}{W w w':World}{cs:List CliQ}{ss:List SrvQ}{Z:Array Value}{f:Nat×Nat}{st:List CliQ×List SrvQ}{piece:List UInt8}
theorem mem_footQ:b∈footQ X cv cis vs↔b=X∨cv.ownBlock=some b∨(∃(i:Nat) (v:CliV),cis[i]?=some v∧b∈v.foot)∨b∈feetS vs:=by
 unfold footQ;rw[List.mem_cons,List.mem_append,List.mem_append,mem_civ];constructor
 ·rintro (h|h|h|h)
  ·exact .inl h
  ·exact .inr (.inl (mem_own h))
  ·exact .inr (.inr (.inl h))
  ·exact .inr (.inr (.inr h))
 ·rintro (h|h|h|h)
  ·exact .inl h
  ·exact .inr (.inl (by rw[h];simp))
  ·exact .inr (.inr (.inl h))
  ·exact .inr (.inr (.inr h))
def tysJP:List Nat:=[129,116,125,134,5,175,216,4,9,143]
def tysJR:List Nat:=[240,244,243,247,195,263,266,9,249,253]
theorem JunQ.types (h:JunQ W X sv pt win g sc cv cis cs vs ss)(hb:b∈footQ X cv cis vs)(hZ:W.heap[b]?=some (.cells Z T f)):T∈tysJP:=by
 unfold tysJP;rcases mem_footQ.1 hb with e|e|⟨i,v,hv,e⟩|e
 ·have h1:=h.blk;unfold juO at h1;rw[←e,hZ]at h1;simp at h1;simp[h1]
 ·obtain⟨cur,hc⟩:=ownsRow_blk h.row e;rw[hZ]at hc;simp at hc;simp[hc]
 ·obtain⟨s,hs,hok⟩:=h.get hv;refine Classical.byContradiction fun hn=>?_
  simp at hn;exact hok.apart hZ ⟨by omega,by omega,by omega,by omega,by omega,by omega,by omega⟩ e
 ·refine Classical.byContradiction fun hn=>?_
  simp at hn;exact h.srv.apart hZ (by omega) (by omega) e
theorem RJunQ.typesR {rv:Value}{cis:List RCliV}{vs:List Nat}(h:RJunQ W X sv pt win cv rv cis cs vs ss)(hb:b∈footRJ X cv cis vs)(hZ:W.heap[b]?=some (.cells Z T f)):T∈tysJR:=by
 obtain⟨Z',T',h1,h2⟩:=h.types hb;rw[hZ]at h1;simp at h1;unfold tysJR;rw[h1.2.1];simp;omega
theorem JunQ.keepL {W':World}(h:JunQ W X sv pt win g sc cv cis cs vs ss)(k:∀b∈footQ X cv cis vs,W'.heap[b]?=W.heap[b]?)(k2:KeepT [137] W W'):JunQ W' X sv pt win g sc cv cis cs vs ss:=by
 refine h.keep (fun b hb=>?_);obtain⟨Zg,g1,_⟩:=h.gb;rcases hb with e|e
 ·exact k b e
 ·rw[e];exact k2 _ _ _ _ g1 (by simp)
theorem JunQ.dial (h:JunQ W X sv pt win g sc cv cis cs vs ss):DialQ cs:=fun s hs=>by
 obtain⟨i,hi,e⟩:=List.mem_iff_getElem.1 hs
 obtain⟨v,hv,hc⟩:=h.getS (by rw[List.getElem?_eq_getElem hi,e])
 exact dial_of hc.cor.di
theorem BdJ.more (h:BdJ win T cs ss)(hT:T≤T'):BdJ win T' cs ss:=⟨fun s hs=>Nat.le_trans (h.told s hs) hT,h.wl,fun u hu=>⟨(h.srv u hu).1,Nat.le_trans (h.srv u hu).2 hT⟩⟩
def HeldS (H:Nat)(ss:List SrvQ):Prop:=∀u∈ss,u.held.length≤H
theorem HeldS.more {H':Nat}(h:HeldS H ss)(hH:H≤H'):HeldS H' ss:=fun u hu=>Nat.le_trans (h u hu) hH
theorem HeldS.same {ss':List SrvQ}(h:HeldS H ss)(k:SameIn ss ss'):HeldS H ss':=fun u hu=>by
 obtain⟨j,hj,e⟩:=List.mem_iff_getElem.1 hu
 obtain⟨s,hs,e1,_⟩:=k.2 j u (by rw[List.getElem?_eq_getElem hj,e])
 rw[e1]
 exact h s (List.mem_of_getElem? hs)
theorem HeldS.set (h:HeldS H ss)(o:Nat){s':SrvQ}(hs:s'.held.length≤H):HeldS H (ss.set o s'):=fun u hu=>by
 rcases List.mem_or_eq_of_mem_set hu with e|e
 ·exact h u e
 ·rw[e];exact hs
theorem HeldS.run (h:HeldS H st.2):HeldS H (runJ sv pt win i st).2:=h.same (runJ_in sv pt win i st)
theorem HeldS.said (h:HeldS H st.2):HeldS H (saidJ sv pt win i piece st).2:=by
 unfold saidJ;split
 ·exact h
 ·exact HeldS.run h
theorem HeldS.runs:∀(n:Nat) {st:List CliQ×List SrvQ},HeldS H st.2→HeldS H (runsJ sv pt win n st).2:=by
 intro n;induction n with
 |zero=>intro st h;exact h
 |succ n ih=>intro st h;rw[runsJ_succ];exact HeldS.run (ih h)
theorem HeldS.fell (h:HeldS H ss):HeldS H (fellS o ss):=by
 unfold fellS;split
 ·exact h
 ·exact h.set _ (Nat.zero_le _)
theorem HeldS.fall (h:HeldS H st.2):HeldS H (fallJ sv pt win o st).2:=by
 unfold fallJ;exact HeldS.runs _ (HeldS.fell h)
theorem HeldS.lis:∀(f:Nat) {st:List CliQ×List SrvQ},HeldS H st.2→HeldS H (lisF sv pt win o f st).1.2:=by
 intro f;induction f with
 |zero=>intro st h;exact h
 |succ f ih=>
  intro st h;unfold lisF;split
  ·exact h
  ·rename_i s hs;split
   ·exact h
   ·refine ih (HeldS.run (h.set o ?_));have:=h s (List.mem_of_getElem? hs);simp only[List.length_drop]
    omega
theorem HeldS.listen (h:HeldS H st.2):HeldS H (listenJ sv pt win o st).2:=by
 unfold listenJ lisJ;split
 ·exact HeldS.lis _ h
 ·exact HeldS.fall (HeldS.lis _ h)
theorem HeldS.answered (h:HeldS H st.2):HeldS (H+piece.length) (answeredJ sv pt win o piece st).2:=by
 unfold answeredJ;split
 ·exact h.more (by omega)
 ·rename_i s hs;refine HeldS.listen ((h.more (by omega)).set o ?_);have:=h s (List.mem_of_getElem? hs);simp only[List.length_append]
  omega
theorem HeldS.upped (h:HeldS H ss):HeldS H (uppedJ o ss):=by
 unfold uppedJ;split
 ·exact h
 ·rename_i s hs;exact h.set o (h s (List.mem_of_getElem? hs))
structure JqI where
 D:Nat
 X:Nat
 Xr:Nat
 sv:Nat
 pt:Nat
 win:Nat
 g:Nat
 sc:Nat
 cv:Value
 cis:List CliV
 vs:List SrvV
 rcv:Value
 rrv:Value
 rcis:List RCliV
 rvs:List Nat
 cs:List CliQ
 ss:List SrvQ
def JqI.footP (d:JqI):List Nat:=footQ d.X d.cv d.cis d.vs
def JqI.footR (d:JqI):List Nat:=footRJ d.Xr d.rcv d.rcis d.rvs
def JqI.foot (d:JqI):List Nat:=d.footP++d.footR
structure JqB (T:Nat)(d:JqI):Prop where
 bd:BdJ d.win T d.cs d.ss
 held:HeldS T d.ss
theorem JqB.more {d:JqI}(h:JqB T d)(hT:T≤T'):JqB T' d:=⟨h.bd.more hT,h.held.more hT⟩
structure JqOk (w:World)(lo:Nat)(d:JqI):Prop where
 blk:w.heap[d.D]?=some (.cells #[ptrV d.X,ptrV d.Xr] 201 (0,0))
 jun:JunQ w d.X d.sv d.pt d.win d.g d.sc d.cv d.cis d.cs d.vs d.ss
 ref:RJunQ w d.Xr d.sv d.pt d.win d.rcv d.rrv d.rcis d.cs d.rvs d.ss
 ap:∀b∈d.footP,b∉d.footR
 ge:∀b∈d.foot,lo≤b
theorem JqOk.old {d:JqI}(h:JqOk w lo d)(hb:b∈d.foot):b<w.heap.size:=by
 rcases List.mem_append.1 hb with e|e
 ·exact h.jun.old b e
 ·exact h.ref.old e
theorem JqOk.types {d:JqI}(h:JqOk w lo d)(hb:b∈d.foot)(hZ:w.heap[b]?=some (.cells Z T f)):T∈tysJP++tysJR:=by
 rcases List.mem_append.1 hb with e|e
 ·exact List.mem_append.2 (.inl (h.jun.types e hZ))
 ·exact List.mem_append.2 (.inr (h.ref.typesR e hZ))
theorem JqOk.keep {d:JqI}(h:JqOk w lo d)(hs:w.heap.size≤w'.heap.size)(k:∀b∈d.foot,w'.heap[b]?=w.heap[b]?)(k2:KeepT [201,137,241] w w'):JqOk w' lo d:=
 ⟨(k2 _ _ _ _ h.blk (by simp)).trans h.blk,h.jun.keepL (fun b hb=>k b (List.mem_append.2 (.inl hb))) (k2.sub (by simp)),h.ref.keep hs (fun b hb=>k b (List.mem_append.2 (.inr hb))) (k2.sub (by simp)),h.ap,h.ge⟩
theorem JqOk.below {d:JqI}(h:JqOk w lo d)(hb:Below w.heap.size w w'):JqOk w' lo d:=h.keep hb.size (fun b hm=>hb.block b (h.old hm)) (KeepT.below hb)
structure JwR where
 a0:Value
 a2:Value
 a3:Value
 a4:Value
 a5:Value
 a6:Value
def jwNil:JwR:=⟨.slice none 0 0,.slice none 0 0,.slice none 0 0,.slice none 0 0,.slice none 0 0,.int .i64 0⟩
def jwX (A:JwR)(jv:Value):Obj:= .cells #[A.a0,jv,A.a2,A.a3,A.a4,A.a5,A.a6] 87 (0,0)
structure JxAt (w:World)(lo B:Nat)(A:JwR)(jv:Value)(ds:List JqI)(T:Nat):Prop where
 wd:w.heap[B]?=some (jwX A jv)
 ge:lo≤B
 row:Row w lo 154 1 jv ds.length (ds.map fun d=>ptrV d.D)
 all:∀d∈ds,JqOk w lo d∧JqB T d
 ap:∀(i j:Nat) (d e:JqI),i≠j→ds[i]?=some d→ds[j]?=some e→∀b∈d.foot,b∉e.foot
theorem JxAt.below {A:JwR}{ds:List JqI}(h:JxAt w lo B A jv ds T)(hb:Below w.heap.size w w'):JxAt w' lo B A jv ds T:=
 ⟨(hb.block B (blkLt h.wd)).trans h.wd,h.ge,h.row.other (fun g Z _ hZ _=>hb.block g (blkLt hZ)),fun d hd=>⟨(h.all d hd).1.below hb,(h.all d hd).2⟩,h.ap⟩
theorem JxAt.more {A:JwR}{ds:List JqI}(h:JxAt w lo B A jv ds T)(hT:T≤T'):JxAt w lo B A jv ds T':=⟨h.wd,h.ge,h.row,fun d hd=>⟨(h.all d hd).1,(h.all d hd).2.more hT⟩,h.ap⟩
theorem JxAt.step {A:JwR}{ds:List JqI}(h:JxAt w lo B A jv ds T)(hT:T≤T')(hlo:lo≤w.heap.size){d d':JqI}(hd:ds[i]?=some d)(k:Chg d.foot w w')(hl:Later w d.foot d'.foot)(hD:d'.D=d.D)(hok':JqOk w' lo d')(hb:JqB T' d'):JxAt w' lo B A jv (ds.set i d') T'∧Below lo w w'∧Kept95 w w':=by
 have hil:=(List.getElem?_eq_some_iff.1 hd).1;obtain⟨hok,_⟩:=h.all d (List.mem_of_getElem? hd);have kT:∀Ts:List Nat,(∀t∈Ts,t∉tysJP++tysJR)→KeepT Ts w w':=fun Ts hTs=>keepTys k (fun b hb Z T f hZ=>hok.types hb hZ) hTs
 have hwd:=h.wd;unfold jwX at hwd;have hmap:(ds.set i d').map (fun d=>ptrV d.D)=ds.map (fun d=>ptrV d.D):=by
  apply List.ext_getElem?;intro j;rw[List.getElem?_map,List.getElem?_map,List.getElem?_set];split
  ·rename_i e;subst e;rw[hd];simp[hD]
  ·rfl
 have old:∀(j:Nat) (e:JqI),ds[j]?=some e→∀b∈e.foot,b<w.heap.size:=fun j e he b hb=>(h.all e (List.mem_of_getElem? he)).1.old hb
 refine⟨⟨((kT [87] (by decide)) _ _ _ _ hwd (by simp)).trans hwd,h.ge,?_,fun e he=>?_,fun a j u1 u2 hij h1 h2 b hb1 hb2=>?_⟩,⟨k.os,k.tape,k.output,k.size,fun b hb=>k.block b (by omega) (fun hm=>by have:=hok.ge b hm;omega)⟩,fun b Z hZ=>((kT [95] (by decide)) _ _ _ _ hZ (by simp)).trans hZ⟩
 ·rw[hmap,List.length_set];exact h.row.other (fun g Z _ hZ _=>(kT [154] (by decide)) _ _ _ _ hZ (by simp))
 ·obtain⟨j,hj,e1⟩:=List.mem_iff_getElem.1 he;have he2:(ds.set i d')[j]?=some e:=by rw[List.getElem?_eq_getElem hj,e1]
  rw[List.getElem?_set]at he2;split at he2
  ·simp at he2;rw[←he2];exact⟨hok',hb⟩
  ·rename_i hne;have h1:=h.all e (List.mem_of_getElem? he2);exact⟨h1.1.keep k.size (fun b hb=>k.block b (old j e he2 b hb) (h.ap j i e d (fun e=>hne e.symm) he2 hd b hb)) (kT _ (by decide)),h1.2.more hT⟩
 ·rw[List.getElem?_set]at h1 h2;split at h1
  ·rename_i e1;subst e1;split at h2
   ·rename_i e2;exact hij e2
   ·simp at h1;obtain⟨_,rfl⟩:=h1;rcases hl b hb1 with h3|h3
    ·exact h.ap i j d u2 hij hd h2 b h3 hb2
    ·have:=old j u2 h2 b hb2;omega
  ·split at h2
   ·rename_i e2;subst e2;simp at h2;obtain⟨_,rfl⟩:=h2;rcases hl b hb2 with h3|h3
    ·exact h.ap a i u1 d hij h1 hd b hb1 h3
    ·have:=old a u1 h1 b hb1;omega
   ·exact h.ap a j u1 u2 hij h1 h2 b hb1 hb2
set_option maxHeartbeats 1000000
set_option maxRecDepth 100000
variable {i T:Nat}{s:CliQ}
theorem DialQ.set {cs:List CliQ}(h:DialQ cs){s':CliQ}(hs:cs[i]?=some s)(e:s'.d=s.d):DialQ (cs.set i s'):=fun x hx=>by
 rcases List.mem_or_eq_of_mem_set hx with h1|h1
 ·exact h x h1
 ·rw[h1,e];exact h s (List.mem_of_getElem? hs)
structure RRan (w w':World)(X sv pt win T:Nat)(cv rv:Value)(n:Nat)(M:List Nat)(vs:List Nat)(cis:List RCliV)(st:List CliQ×List SrvQ):Prop where
 jun:RJunQ w' X sv pt win cv rv cis st.1 vs st.2
 ks:cis.length=n
 bd:BdJ win T st.1 st.2
 di:DialQ st.1
 chg:Chg M w w'
 lat:Later w M (footRJ X cv cis vs)
section
variable {w:World}{X sv pt win:Nat}{cv rv:Value}{cis:List RCliV}{cs:List CliQ}{vs:List Nat}{ss:List SrvQ}
theorem rserves_jun (h:RJunQ w X sv pt win cv rv cis cs vs ss){v:RCliV}(hv:cis[i]?=some v)(hT:T+5000≤100000000000)(hb:BdJ win T cs ss)(hd:DialQ cs):Calls Tryz.prog 151 #[.pointer (some ⟨X,0,none⟩),.pointer (some ⟨v.K,0,none⟩)] w fun e w'=>e= .returned (.tuple #[])∧∃v',v'.K=v.K∧RRan w w' X sv pt win T cv rv cis.length (footRJ X cv cis vs) vs (cis.set i v') (runJ sv pt win i (cs,ss)):=by
 have hi:=(List.getElem?_eq_some_iff.1 hv).1;obtain⟨s,hs,hc⟩:=h.get hv;have e:runJ sv pt win i (cs,ss)=(cs.set i (servQ sv pt win (exAt cs i) (tellQs s) ss).1,(servQ sv pt win (exAt cs i) (tellQs s) ss).2):=by unfold runJ;simp only[hs]
 rw[e];refine(rservesQ (T:=T) (v0:=v) (s0:=s) (ss0:=ss) (tg:=servQ sv pt win (exAt cs i) (tellQs s) ss) ⟨by rw[set_same hv,set_same hs];exact h,rfl,rfl,Chg.refl _ _,by rw[set_same hv];exact Later.refl _ _,rfl,hb.at_ hs,rfl⟩ hi hT (hd s (List.mem_of_getElem? hs))).mono ?_;rintro e w' ⟨rfl,b1,b2,v',a1,a2,a3,a4⟩;exact⟨rfl,v',a1,a2,by simp,hb.set hs b1,hd.set hs b2,a3,a4⟩
theorem rsayQ_no (h:RJunQ w X sv pt win cv rv cis cs vs ss)(k:Int)(piece:ByteArray)(hk:k<0∨(cis.length:Int)≤k):Calls Tryz.prog 115 #[.pointer (some ⟨X,0,none⟩),.int .i64 k,.string piece] w fun e w'=>e= .returned (.int .i64 1)∧w'=w:=by
 obtain⟨a,c,rfl⟩:=row_form h.crow;have hb:=h.blk;unfold rjO at hb;have hn:=h.c4;have c3:=blkCell hb 3;simp at c3;have hlt:=blkLt hb;clear h hb;by_cases h0:k<0
 ·go_enter Tryz.func115,Tryz.ntmps115;go_wp2;go_ret;exact⟨rfl,rfl⟩
 ·have h1:(cis.length:Int)≤k:=by omega
  go_enter Tryz.func115,Tryz.ntmps115;go_wp2;go_ret;exact⟨rfl,rfl⟩
theorem rsayQ_yes (h:RJunQ w X sv pt win cv rv cis cs vs ss)(hs:cs[i]?=some s)(piece:ByteArray)(hT:T+5000≤100000000000)(hb:BdJ win T (cs.set i (tookQ s piece.data.toList)) ss)(hd:DialQ cs)(hl:s.st.held.length+piece.size≤1000000000000):Calls Tryz.prog 115 #[.pointer (some ⟨X,0,none⟩),.int .i64 (i:Int),.string piece] w fun e w'=>e= .returned (.int .i64 0)∧∃cis',RRan w w' X sv pt win T cv rv cis.length (footRJ X cv cis vs) vs cis' (saidJ sv pt win i piece.data.toList (cs,ss)):=by
 obtain⟨v,hv,hok⟩:=h.getC hs;have hi:=(List.getElem?_eq_some_iff.1 hv).1;have hc4:=h.c4;obtain⟨g,c,rfl,hgl,hg⟩:=row_at h.crow (by simp) (i:=i) (x:=ptrV v.K) (by rw[List.getElem?_map,hv];rfl);unfold ptrV at hg;have hX:=h.blk;unfold rjO at hX;have c3:=blkCell hX 3;simp at c3;have hlt:=blkLt hX;have hK:=hok.blk;unfold rcO at hK;have k1:=blkCell hK 1;simp at k1;have hKl:=blkLt hK;have h0:¬(i:Int)<0:=by omega
 have h1:¬(cis.length:Int)≤(i:Int):=by omega
 have h2:(i:Int)<(cis.length:Int):=by omega
 have HPu:=hide' (refpush_any v.Y s.d s.st piece w hok.rd hl);have HSv:Hid (∀w1,RefAt w1 v.Y s.d (takeS s.st piece.data.toList)→Turn v.Y w w1→Calls Tryz.prog 151 #[.pointer (some ⟨X,0,none⟩),.pointer (some ⟨v.K,0,none⟩)] w1 fun e w'=>e= .returned (.tuple #[])∧∃cis',RRan w w' X sv pt win T (.slice (some ⟨g,0,none⟩) cis.length c) rv cis.length (footRJ X (.slice (some ⟨g,0,none⟩) cis.length c) cis vs) vs cis' (saidJ sv pt win i piece.data.toList (cs,ss))):=fun w1 hR hTn=>by
  obtain⟨a1,a2⟩:=hok.turned hTn hR;obtain⟨b1,b2⟩:=h.cliTo (s':=tookQ s piece.data.toList) hv a2 a1 rfl (Later.refl _ _) (h.wl s (List.mem_of_getElem? hs));have k0:Chg (footRJ X (.slice (some ⟨g,0,none⟩) cis.length c) cis vs) w w1:=a2.more (fun b hb=>mem_footRJ.2 (.inr (.inr (.inl ⟨i,v,hv,hb⟩))));rw[set_same hv]at b1 b2;refine(rserves_jun b1 hv hT hb (hd.set hs rfl)).mono ?_;rintro e w' ⟨rfl,v',_,hr⟩;have es:saidJ sv pt win i piece.data.toList (cs,ss)=runJ sv pt win i (cs.set i (tookQ s piece.data.toList),ss):=by unfold saidJ;simp only[hs]
  rw[es];exact⟨rfl,_,hr.jun,hr.ks,hr.bd,hr.di,k0.trans hr.chg (Later.refl _ _),(Later.refl _ _).trans hr.lat k0.size⟩
 clear h hb hX hK hok hd;go_enter Tryz.func115,Tryz.ntmps115;go_wp2_with fail
 go_at_call 148;refine HPu.out.mono ?_;rintro e w1 ⟨rfl,hR,hTn⟩;have HS1:=hide' (HSv.out w1 hR hTn);clear hR hTn;go_wp2_with fail
 go_at_call 151;refine HS1.out.mono ?_;rintro e w2 ⟨rfl,hf⟩;have HF:=hide' hf;clear hf;go_wp2;go_ret;exact⟨rfl,HF.out⟩
end
end Go.Proofs.YtlonjggfnleolaaGreatDoor
