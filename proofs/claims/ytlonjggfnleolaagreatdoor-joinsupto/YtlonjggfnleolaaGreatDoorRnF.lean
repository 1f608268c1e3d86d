import Derived.Test.YtlonjggfnleolaaGreatDoorRnE
namespace Go.Proofs.YtlonjggfnleolaaGreatDoor
open Go.RowKit Go.Shelf
set_option linter.unusedVariables false
set_option maxHeartbeats 4000000
set_option maxRecDepth 100000
variable {v:RCliV}{s:CliQ}{x:QS}{xs:List QS}{w:World}
theorem RCliQ.told {W W5:World}{u:RQI}{ws:List RQI}{wv:Value}(h:RCliQ W v s)(hb:Below W.heap.size W W5)(hw:s.qs=x::xs)(hu:v.ws=u::ws)(hrow2:OffRow W 263 wv (ws.map (fun u=>ptrV u.B)))(how:wv.ownBlock=v.wv.ownBlock)(t:List UInt8):RCliQ ((W5.setCell ⟨v.K,3,none⟩ (.string (mkB t))).setCell ⟨v.K,2,none⟩ wv) ⟨v.K,v.Y,wv,ws⟩ ⟨s.d,s.st,xs,t⟩∧Chg v.foot W ((W5.setCell ⟨v.K,3,none⟩ (.string (mkB t))).setCell ⟨v.K,2,none⟩ wv)∧Later W v.foot (RCliV.foot ⟨v.K,v.Y,wv,ws⟩):=by
 have hK:=h.blk;have hK5:=(hb.block v.K (blkLt hK)).trans hK;have k:Chg [v.K] W ((W5.setCell ⟨v.K,3,none⟩ (.string (mkB t))).setCell ⟨v.K,2,none⟩ wv):=((Chg.of_below hb).set (.inl (by simp)) _).set (.inl (by simp)) _;have nK:∀{b T:Nat} {Z:Array Value},W.heap[b]?=some (.cells Z T (0,0))→T≠247→b≠v.K:=fun hb hT e=>by
  rw[e,hK]at hb;unfold rcO at hb;simp at hb;exact hT hb.2.symm
 have kb:∀{b T:Nat} {Z:Array Value},W.heap[b]?=some (.cells Z T (0,0))→T≠247→((W5.setCell ⟨v.K,3,none⟩ (.string (mkB t))).setCell ⟨v.K,2,none⟩ wv).heap[b]?=W.heap[b]?:=fun hb hT=>k.block _ (blkLt hb) (by simpa using nK hb hT)
 have hnd:=h.nd;rw[hu,feetRQ_cons]at hnd;refine⟨⟨(blkSet (i:=2) (blkSet (i:=3) hK5 _) _).trans rfl,⟨(kb h.rd.at_ (by decide)).trans h.rd.at_,h.rd.ok⟩,hrow2.other (fun g hg=>by obtain⟨cur,hc⟩:=hrow2.blk hg;exact kb hc (by decide)),?_,fun i u' x' hu' hx'=>?_,(List.nodup_append.1 hnd).2.1,fun y hy=>h.ok y (by rw[hw];exact List.mem_cons_of_mem _ hy)⟩,k.more (fun b hb=>?_),fun b hb=>?_⟩
 ·have:=h.len;rw[hu,hw]at this;simpa using this
 ·have hq:=h.qu (i+1) u' x' (by rw[hu];exact hu') (by rw[hw];exact hx');exact hq.keep k.size (fun b hb=>by obtain⟨Z,T,h1,h2⟩:=hq.kind b hb;exact kb h1 (by rcases h2 with e|e|e|e<;>(subst e;decide)))
 ·simp at hb;rw[hb];simp[RCliV.foot]
 ·refine .inl ?_;unfold RCliV.foot at hb⊢;simp only at hb;rw[how]at hb;rcases List.mem_cons.1 hb with e|hb
  ·rw[e];simp
  rcases List.mem_cons.1 hb with e|hb
  ·rw[e];simp
  rcases List.mem_append.1 hb with hb|hb
  ·exact List.mem_cons_of_mem _ (List.mem_cons_of_mem _ (List.mem_append.2 (.inl hb)))
  ·refine List.mem_cons_of_mem _ (List.mem_cons_of_mem _ (List.mem_append.2 (.inr ?_)));rw[hu,feetRQ_cons];exact List.mem_append.2 (.inr hb)
theorem rtellsQ_nil (h:RCliQ w v s)(hw:s.qs=[]):Calls Tryz.prog 166 #[.pointer (some ⟨v.K,0,none⟩)] w fun e w'=>e= .returned (.bool false)∧Below w.heap.size w w':=by
 have h0:v.ws=[]:=List.length_eq_zero_iff.1 (by rw[h.len,hw];rfl);obtain⟨wa,wc,hwv⟩:=h.row.len;rw[h0]at hwv;have hK:=h.blk;unfold rcO at hK;rw[hwv]at hK;have k2:=blkCell hK 2;simp at k2;have hKl:=blkLt hK;clear h hK hwv;go_enter Tryz.func166,Tryz.ntmps166;go_wp2;go_ret;exact⟨rfl,Below.refl _ _⟩
def RTold (w w':World)(v:RCliV)(s:CliQ)(x:QS)(xs:List QS)(e:Ending):Prop:=
 (x.n≠0∧e= .returned (.bool false)∧Below w.heap.size w w')∨(x.n=0∧e= .returned (.bool true)∧∃v',RCliQ w' v' ⟨s.d,s.st,xs,s.told++(toldB s.d x).data.toList⟩∧v'.K=v.K∧v'.Y=v.Y∧Chg v.foot w w'∧Later w v.foot v'.foot)
theorem rtellsQ (h:RCliQ w v s)(hd:s.d=1∨s.d=2∨s.d=3)(hw:s.qs=x::xs)(hwl:s.qs.length≤1000)(hT:s.told.length≤100000000000):Calls Tryz.prog 166 #[.pointer (some ⟨v.K,0,none⟩)] w fun e w'=>RTold w w' v s x xs e:=by
 have hlen:=h.len;rw[hw]at hlen;obtain⟨u,ws,hu⟩:∃u ws,v.ws=u::ws:=by
  cases hws:v.ws with
  |nil=>rw[hws]at hlen;simp at hlen
  |cons u ws=>exact⟨u,ws,rfl⟩
 have hq:=h.qu 0 u x (by rw[hu];rfl) (by rw[hw];rfl);have ok:=h.ok x (by rw[hw];simp);obtain⟨g,off,cap,hwv,hwc,hgl,hgc⟩:=h.row.at_ (i:=0) (x:=ptrV u.B) (by rw[hu];rfl);rw[List.length_map,hu,List.length_cons]at hwv hwc;have hrow0:=h.row;rw[hu,hwv,List.map_cons]at hrow0;have HFin:Hid (∀W5,Below w.heap.size w W5→∀wv,wv=Value.slice (some ⟨g,off+1,none⟩) ws.length (cap-1)∨(wv=Value.slice (some ⟨g,off,none⟩) ws.length 0∧ws.length=0)→RCliQ ((W5.setCell ⟨v.K,3,none⟩ (.string (mkB (s.told++(toldB s.d x).data.toList)))).setCell ⟨v.K,2,none⟩ wv) ⟨v.K,v.Y,wv,ws⟩ ⟨s.d,s.st,xs,s.told++(toldB s.d x).data.toList⟩∧Chg v.foot w ((W5.setCell ⟨v.K,3,none⟩ (.string (mkB (s.told++(toldB s.d x).data.toList)))).setCell ⟨v.K,2,none⟩ wv)∧Later w v.foot (RCliV.foot ⟨v.K,v.Y,wv,ws⟩)):=fun W5 hb wv hwv'=>by
  refine h.told hb hw hu ?_ ?_ _
  ·rcases hwv' with e|⟨e,e0⟩
   ·have hrow2:=OffRow.tail (a:=⟨g,off,none⟩) (c:=cap) (xs:=ws.map (fun u=>ptrV u.B)) (by rw[List.length_map];exact hrow0);rw[List.length_map]at hrow2;rw[e];exact hrow2
   ·have ew:ws=[]:=List.length_eq_zero_iff.1 e0;rw[e];rw[ew]at hrow0⊢;exact OffRow.tail0 hrow0
  ·rw[hwv];rcases hwv' with e|⟨e,e0⟩<;>rw[e]<;>rfl
 clear hrow0;have hwn:ws.length≤1000:=by rw[hw]at hwl;simp at hlen hwl;rw[hu]at hlen;simp at hlen;omega
 unfold ptrV at hgc;rw[Nat.add_zero]at hgc;have hK:=h.blk;unfold rcO at hK;rw[hwv]at hK;have k0:=blkCell hK 0;have k2:=blkCell hK 2;have k3:=blkCell hK 3;simp at k0 k2 k3;have kf:=blkFree hK;have hKl:=blkLt hK;have hB:=hq.blk;unfold rwO at hB;obtain⟨pa,pc,hpv⟩:=row_form hq.row;obtain⟨ka,kc,hkv,hks⟩:=hq.keys.strs (by have:=ok.w.cm.k4;omega) ok.w.cm.k8;rw[hkv,hpv]at hB;have b3:=blkCell hB 3;have b6:=blkCell hB 6;simp at b3 b6;have hBl:=blkLt hB;have hBK:¬u.B=v.K:=fun e=>by rw[e,hK]at hB;simp at hB
 have hbl:=hq.len;have hpn4:x.ps.length≤4:=by have:=ok.len;have:=ok.w.cm.k4;omega
 have HPs:Hid (∀(r:Nat) (p:PS),x.ps[r]?=some p→∃(g b cap o id sta st:Nat) (vl:ByteArray),Value.slice pa u.bs.length pc= .slice (some ⟨g,0,none⟩) u.bs.length cap∧g<w.heap.size∧w.cell? ⟨g,r,none⟩=some (.pointer (some ⟨b,0,none⟩))∧w.heap[b]?=some (rpO o id sta st vl)∧((p.opn=true∧sta=0)∨(p= .fl∧sta=2)∨(p= .an st vl∧sta=1))):=fun r p hp=>by
  have hrl:r<u.bs.length:=by rw[hbl];exact(List.getElem?_eq_some_iff.1 hp).1
  obtain⟨b,hb⟩:∃b,u.bs[r]?=some b:=⟨_,List.getElem?_eq_getElem hrl⟩
  obtain⟨g,cap,e1,e2,e3⟩:=row_at hq.row (by simp) (i:=r) (x:=ptrV b) (by rw[List.getElem?_map,hb];rfl);rw[hpv]at e1;have hpq:=hq.ok r b p hb hp;cases p using PS.el with
  |un=>exact hpq.elim
  |op o id=>exact⟨g,b,cap,o,id,0,0,_,e1,e2,e3,hpq,.inl ⟨rfl,rfl⟩⟩
  |an st vl=>obtain⟨o,id,h1⟩:=hpq;exact⟨g,b,cap,o,id,1,st,vl,e1,e2,e3,h1,.inr (.inr ⟨rfl,rfl⟩)⟩
  |fl=>obtain⟨o,id,h1⟩:=hpq;exact⟨g,b,cap,o,id,2,0,_,e1,e2,e3,h1,.inr (.inl ⟨rfl,rfl⟩)⟩
 have hword:x.c.keys≠[]→x.c.word=noB:=fun hk=>by
  rcases ok.w.ok.or_ with⟨_,e,_⟩|⟨_,e,_⟩
  ·exact e
  ·exact absurd e hk
 have hsz:=toldB_size hd ok;have hsz2:=mkB_size s.told;have HMk:=hide' (mkB_app s.told (toldB s.d x));have hsz3:¬9223372036854775807<(mkB s.told).size+(toldB s.d x).size:=by omega
 have hlenw:¬((ws.length+1:Nat):Int)=0:=by omega
 have HMid:Hid (∀(wr:World),TellAt w wr x x.ps.length→(wdAt x x.ps.length).toList.isEmpty=false→TellMid w wr s.d x (.slice ka x.c.keys.length kc)):=fun wr ht he=>by
  refine⟨ht.bel,_,_,_,_,ht.at_,fun W' hW'=>?_⟩;have hWb:Below w.heap.size w W':=ht.bel.trans (hW'.mono ht.bel.size);by_cases hk:x.c.keys=[]
  ·have h4:=ok.w.cm.wrong hk;have e1:wdAt x x.ps.length=x.c.word:=by
    have:x.ps=[]:=List.length_eq_zero_iff.1 (by rw[ok.len,hk];rfl);rw[this];unfold wdAt;simp[this]
   have e2:toldB s.d x=wrongB s.d x.c:=by unfold toldB;rw[if_pos hk]
   rw[e1,e2];have hks0:=hks.later hWb;rw[hk]at hks0⊢;exact reftell_wrong s.d hd x.c ka kc W' hks0 h4.1 ok.w.cm.v40 h4.2 (ok.w.wd hk) ok.w.cm.id0 ok.w.cm.id1
  ·have hwd:=wdAt_end x (hword hk);have hne:x.ak=5:=by
    rw[hwd]at he;unfold QS.wd at he;unfold QS.ak;by_cases hf:x.fa=true
    ·rw[if_pos hf]
    ·rw[if_neg hf]at he⊢;by_cases hr:x.re=true
     ·rw[if_pos hr]
     ·rw[if_neg hr,show(ByteArray.mk #[]).toList.isEmpty=noB.toList.isEmpty from rfl,emptyNo]at he;cases he
   rw[hwd];have:=reftellQ (W:=W') hd ok hk (hks.later hWb) (fa:=none) (va:=none) (fn:=0) (fc:=0) (vn:=0) (vc:=0) (fun _=>⟨rfl,rfl,rfl,rfl,rfl,rfl⟩) (fun e=>absurd e (by omega));rw[hne]at this;exact this
 have HCom:Hid (∀(wr:World),TellAt w wr x x.ps.length→(wdAt x x.ps.length).toList.isEmpty=true→Calls Tryz.prog 174 #[.pointer (some ⟨u.B,0,none⟩)] wr fun e w'=>∃(ak:Int) (fa:Option Addr) (fn fc:Nat) (va:Option Addr) (vn vc:Nat),e= .returned (.agg #[.int .i64 ak,.slice fa fn fc,.slice va vn vc,.string ⟨#[]⟩])∧Below wr.heap.size wr w'∧TellMid w ((((w'.setCell ⟨w.heap.size,0,none⟩ (.int .i64 ak)).setCell ⟨w.heap.size,1,none⟩ (.slice fa fn fc)).setCell ⟨w.heap.size,2,none⟩ (.slice va vn vc)).setCell ⟨w.heap.size,3,none⟩ (.string ⟨#[]⟩)) s.d x (.slice ka x.c.keys.length kc)):=fun wr ht he=>by
  have hk:x.c.keys≠[]:=fun hk=>by
   have e1:wdAt x x.ps.length=x.c.word:=by
    have:x.ps=[]:=List.length_eq_zero_iff.1 (by rw[ok.len,hk];rfl);rw[this];unfold wdAt;simp[this]
   rw[e1]at he;have h1:=ok.w.wd hk;rw[emptyB' he]at h1;exact absurd h1 (by decide)
  have hwd:=wdAt_end x (hword hk);rw[hwd]at he;have hf:x.fa=false:=by
   cases hf:x.fa with
   |false=>rfl
   |true=>unfold QS.wd at he;rw[if_pos hf,downB_ne]at he;cases he
  have hr:x.re=false:=by
   cases hr:x.re with
   |false=>rfl
   |true=>unfold QS.wd at he;rw[if_neg (by simp[hf]),if_pos hr,refusedB_ne]at he;cases he
  have hn:x.n=0:=by
   unfold QS.n;rw[List.countP_eq_zero];intro p hp;have:=ht.no p (by rw[List.take_length];exact hp);simp[this]
  have hwd0:x.wd=⟨#[]⟩:=by unfold QS.wd;rw[if_neg (by simp[hf]),if_neg (by simp[hr])]
  have hq2:=hq.keep ht.bel.size (fun b hb=>ht.bel.block b (hq.old b hb));refine(rcomesQ hq2 hn hf hr ok hk).mono ?_;rintro e w' ⟨fa,fn,fc,va,vn,vc,rfl,c1,c2,c3,c4,c5⟩;refine⟨x.ak,fa,fn,fc,va,vn,vc,rfl,c1,?_⟩;have hA:=(c1.block _ (blkLt ht.at_)).trans ht.at_;have hAl:=blkLt ht.at_;have kb:Below w.heap.size w ((((w'.setCell ⟨w.heap.size,0,none⟩ (.int .i64 x.ak)).setCell ⟨w.heap.size,1,none⟩ (.slice fa fn fc)).setCell ⟨w.heap.size,2,none⟩ (.slice va vn vc)).setCell ⟨w.heap.size,3,none⟩ (.string ⟨#[]⟩)):=((((ht.bel.trans (c1.mono ht.bel.size)).setCell (Nat.le_refl _) _).setCell (Nat.le_refl _) _).setCell (Nat.le_refl _) _).setCell (Nat.le_refl _) _;have kk:∀b,b≠w.heap.size→((((w'.setCell ⟨w.heap.size,0,none⟩ (.int .i64 x.ak)).setCell ⟨w.heap.size,1,none⟩ (.slice fa fn fc)).setCell ⟨w.heap.size,2,none⟩ (.slice va vn vc)).setCell ⟨w.heap.size,3,none⟩ (.string ⟨#[]⟩)).heap[b]?=w'.heap[b]?:=fun b hb=>by
   rw[Below.heap_setCell _ ⟨w.heap.size,3,none⟩ _ b hb,Below.heap_setCell _ ⟨w.heap.size,2,none⟩ _ b hb,Below.heap_setCell _ ⟨w.heap.size,1,none⟩ _ b hb,Below.heap_setCell _ ⟨w.heap.size,0,none⟩ _ b hb]
  have ksz:((((w'.setCell ⟨w.heap.size,0,none⟩ (.int .i64 x.ak)).setCell ⟨w.heap.size,1,none⟩ (.slice fa fn fc)).setCell ⟨w.heap.size,2,none⟩ (.slice va vn vc)).setCell ⟨w.heap.size,3,none⟩ (.string ⟨#[]⟩)).heap.size=w'.heap.size:=by simp
  refine⟨kb,x.ak,.slice fa fn fc,.slice va vn vc,x.wd,?_,fun W' hW'=>?_⟩
  ·rw[hwd0];exact(blkSet (i:=3) (blkSet (i:=2) (blkSet (i:=1) (blkSet (i:=0) hA _) _) _) _).trans rfl
  ·have hWb:Below w.heap.size w W':=kb.trans (hW'.mono kb.size);rw[ksz]at hW';have kW:∀b,b<w'.heap.size→b≠w.heap.size→W'.heap[b]?=w'.heap[b]?:=fun b h1 h2=>(hW'.block b h1).trans (kk b h2)
   refine reftellQ hd ok hk (hks.later hWb) (fun e=>c2 (fun e1=>e ?_)) (fun e=>?_)
   ·unfold QS.ak;rw[hf,hr,e1];simp
   ·have hk1:x.c.kind=1:=by
     unfold QS.ak at e;rw[hf,hr]at e;simp at e;refine Classical.byContradiction fun h1=>?_
     have e:=e h1;split at e
     ·cases e
     ·split at e<;>cases e
    obtain⟨d1,d2⟩:=c3 hk1;refine⟨⟨d1.len,d1.cap,d1.small,?_⟩,⟨d2.len,d2.cap,d2.small,d2.sizes,?_⟩⟩
    ·rcases d1.form with⟨b,o,e1,e2,e3⟩|e1
     ·have hne:b≠w.heap.size:=fun e4=>by have:=c4 b (by rw[e1];rfl);omega
      exact .inl ⟨b,o,e1,by have:=hW'.size;omega,fun i s hs=>(World.cell?_of_block (kW b e2 hne)).trans (e3 i s hs)⟩
     ·exact .inr e1
    ·rcases d2.form with⟨b,o,e1,e2,e3⟩|e1
     ·have hne:b≠w.heap.size:=fun e4=>by have:=c5 b (by rw[e1];rfl);omega
      exact .inl ⟨b,o,e1,by have:=hW'.size;omega,fun i s hs=>(World.cell?_of_block (kW b e2 hne)).trans (e3 i s hs)⟩
     ·exact .inr e1
 have HNo:Hid (∀(wr:World) (j:Nat) (p:PS),TellAt w wr x j→x.ps[j]?=some p→p.opn=true→RTold w wr v s x xs (.returned (.bool false))):=fun wr j p ht hp ho=>by
  refine .inl ⟨fun hn=>?_,rfl,ht.bel⟩;unfold QS.n at hn;rw[List.countP_eq_zero]at hn;exact absurd ho (by simpa using hn p (List.mem_of_getElem? hp))
 have HYes:Hid (∀(wr:World),TellAt w wr x x.ps.length→x.n=0):=fun wr ht=>by
  unfold QS.n;rw[List.countP_eq_zero];intro p hp;have:=ht.no p (by rw[List.take_length];exact hp);simp[this]
 have HWord:Hid (∀(j:Nat) (p:PS),x.ps[j]?=some p→x.c.word=noB):=fun j p hp=>hword (fun hk=>by
  have:x.ps=[]:=List.length_eq_zero_iff.1 (by rw[ok.len,hk];rfl);rw[this]at hp;cases hp)
 have HBlk:=hide' (And.intro hB hK);have HXL:=hide' hbl;generalize hkn:x.c.keys.length=kn at*;clear h hK hB hwv hpv hlen hu hwl hw hkv hks hword hd hT hq ok hkn hbl;have HT0:Hid (TellAt w (w.alloc (.cells #[.int .i64 5,.slice none 0 0,.slice none 0 0,.string x.c.word] 91)) x 0):=⟨(Below.refl _ _).alloc (Nat.le_refl _) _,by rw[wdAt_zero];exact blkNew w _,fun p hp=>by simp at hp⟩
 generalize hpl:u.bs.length=pn at*;have hpn4':pn≤4:=by rw[HXL.out];exact hpn4
 clear hpl;go_enter Tryz.func166,Tryz.ntmps166;go_wp2_with fail
 generalize w.alloc (.cells #[.int .i64 5,.slice none 0 0,.slice none 0 0,.string x.c.word] 91)=w1 at*;go_loopw [5,6] (fun i _ wr=>∃j:Nat,j≤pn∧i= .int .i64 (j:Int)∧Hid (TellAt w wr x j)) (fun i _ _=>pn-(intOf i).toNat)
 case atStart=>exact⟨0,Nat.zero_le _,rfl,HT0⟩
 case round=>
  obtain⟨j,hj,rfl,HJ⟩:=hrel;have lB:=Nat.lt_of_lt_of_le hBl HJ.out.bel.size;have c6:=(HJ.out.bel.cell (p:=⟨u.B,6,none⟩) hBl).trans b6;have a3:=blkCell HJ.out.at_ 3;have af:=blkFree HJ.out.at_;have lA:=blkLt HJ.out.at_;simp at a3;by_cases hlt:j<pn
  ·have hlt':(j:Int)<(pn:Int):=by omega
   obtain⟨p,hp⟩:∃p,x.ps[j]?=some p:=⟨_,List.getElem?_eq_getElem (by rw[←HXL.out];exact hlt)⟩
   obtain⟨g3,b,cap3,o,id,sta,st,vl,e1,e2,e3,e4,e5⟩:=HPs.out j p hp;cases e1;unfold rpO at e4;have q2:=blkCell e4 2;have q3:=blkCell e4 3;simp at q2 q3;have lb:=blkLt e4;have d1:=(HJ.out.bel.cell (p:=⟨g3,j,none⟩) e2).trans e3;have d2:=(HJ.out.bel.cell (p:=⟨b,2,none⟩) lb).trans q2;have d3:=(HJ.out.bel.cell (p:=⟨b,3,none⟩) lb).trans q3;have lg:=Nat.lt_of_lt_of_le e2 HJ.out.bel.size;have lb2:=Nat.lt_of_lt_of_le lb HJ.out.bel.size;have HNx:Hid (∀(W:World),p.opn=false→Below w.heap.size w W→W.heap[w.heap.size]?=some (.cells #[.int .i64 5,.slice none 0 0,.slice none 0 0,.string (wdAt x (j+1))] 91 (0,0))→TellAt w W x (j+1)):=fun W ho hb ha=>⟨hb,ha,fun y hy=>by
    rw[List.take_add_one,hp]at hy;rcases List.mem_append.1 hy with h1|h1
    ·exact HJ.out.no y h1
    ·simp at h1;rw[h1];exact ho⟩
   have HAt:=hide' HJ.out.at_;rcases e5 with⟨ho,rfl⟩|⟨rfl,rfl⟩|⟨rfl,rfl⟩
   ·have HF:=hide' (HNo.out wr j p HJ.out hp ho);clear e3 e4 q2 q3 hp ho HNx;go_wp2;go_ret;exact HF.out
   ·have HN2:Hid (TellAt w (wr.setCell ⟨w.heap.size,3,none⟩ (.string ⟨#[100,111,119,110]⟩)) x (j+1)):=HNx.out _ rfl (HJ.out.bel.setCell (Nat.le_refl _) _) (by rw[wdAt_fl hp];exact(blkSet (i:=3) HAt.out _).trans rfl);clear e3 e4 q2 q3 hp HNx HAt HJ;go_wp2;go_roundw;case rel=>exact⟨j+1,by omega,by go_num,HN2⟩
    case measure=>simp[intOf];omega
   ·by_cases hst:st=2
    ·subst hst;cases hem:(wdAt x j).toList.isEmpty with
     |true=>
      have HN2:Hid (TellAt w (wr.setCell ⟨w.heap.size,3,none⟩ (.string ⟨#[114,101,102,117,115,101,100]⟩)) x (j+1)):=HNx.out _ rfl (HJ.out.bel.setCell (Nat.le_refl _) _) (by rw[wdAt_ref hp hem];exact(blkSet (i:=3) HAt.out _).trans rfl);have hnb:=emptyB' hem;unfold noB at hnb;rw[hnb]at a3;clear e3 e4 q2 q3 hp HNx HAt HJ hnb hem;go_wp2;go_roundw;case rel=>exact⟨j+1,by omega,by go_num,HN2⟩
      case measure=>simp[intOf];omega
     |false=>
      have HN2:Hid (TellAt w wr x (j+1)):=HNx.out _ rfl HJ.out.bel (by rw[wdAt_ref2 hp (HWord.out j _ hp) hem];exact HAt.out);have hne:¬wdAt x j=⟨#[]⟩:=fun e=>by rw[e,show(ByteArray.mk #[]).toList.isEmpty=noB.toList.isEmpty from rfl,emptyNo]at hem;cases hem
      clear e3 e4 q2 q3 hp HNx HAt HJ;generalize wdAt x j=wdj at*;go_wp2;go_roundw;case rel=>exact⟨j+1,by omega,by go_num,HN2⟩
      case measure=>simp[intOf];omega
    ·have HN2:Hid (TellAt w wr x (j+1)):=HNx.out _ rfl HJ.out.bel (by rw[wdAt_an hp hst];exact HAt.out);have hst':¬(st:Int)=2:=by omega
     clear e3 e4 q2 q3 hp HNx HAt HJ hst;generalize wdAt x j=wdj at*;go_wp2;refine⟨?_,by simp[intOf];omega⟩;(repeat apply Exists.intro)
     refine⟨⟨j+1,by omega,by go_num,HN2⟩,rfl⟩
  ·have hjn:j=pn:=by omega
   subst hjn;have hTE:TellAt w wr x x.ps.length:=by rw[←HXL.out];exact HJ.out
   have HTE:=hide' hTE;have hwe:wdAt x j=wdAt x x.ps.length:=by rw[HXL.out]
   have HY:=hide' (HYes.out wr hTE);have HWE:=hide' hwe;clear hTE hwe;obtain⟨ekv,hekv⟩:∃ekv,Value.slice ka kn kc=ekv:=⟨_,rfl⟩
   have HKV:=hide' hekv;generalize hwdj:wdAt x j=wdj at*;have HWJ:=hide' hwdj;clear hwdj HJ;go_upto_if 74 with fail
   go_cut [4] (fun s4 W=>s4= .pointer (some ⟨w.heap.size,0,none⟩)∧TellMid w W s.d x (.slice ka kn kc))
   case first=>
    have a0:=blkCell HTE.out.at_ 0;have a1:=blkCell HTE.out.at_ 1;have a2:=blkCell HTE.out.at_ 2;simp at a0 a1 a2;cases hem:wdj.toList.isEmpty with
    |true=>
     have HC:=hide' (HCom.out wr HTE.out (by rw[←HWE.out];exact hem));have hnb:=emptyB' hem;unfold noB at hnb;have HAt:=hide' HTE.out.at_;clear hem HTE HWE HWJ HY HMid HCom HYes;subst hnb;go_wp2_with fail
     go_at_call 174;refine HC.out.mono ?_;rintro e w4 ⟨ak,fa4,fn4,fc4,va4,vn4,vc4,rfl,hb4,hm4⟩;have HM4:=hide' hm4;have hA4:=(hb4.block _ lA).trans HAt.out;have z0:=blkCell hA4 0;have z1:=blkCell hA4 1;have z2:=blkCell hA4 2;have z3:=blkCell hA4 3;have zf:=blkFree hA4;have lz:=blkLt hA4;simp at z0 z1 z2 z3;clear hm4 hb4 hA4 a0 a1 a2 a3 af lA HAt;go_wp2_with fail
     go_meet
     case rel=>exact⟨rfl,HM4.out⟩
    |false=>
     have hne:¬wdj=⟨#[]⟩:=fun e=>by rw[e,show(ByteArray.mk #[]).toList.isEmpty=noB.toList.isEmpty from rfl,emptyNo]at hem;cases hem
     have HM4:=hide' (HMid.out wr HTE.out (by rw[←HWE.out];exact hem));clear HTE HWE HWJ HY HMid HCom HYes a0 a1 a2;go_wp2_with fail
     go_meet
     case rel=>exact⟨rfl,HM4.out⟩
   case rest=>
    obtain⟨rfl,hM⟩:=hcut;obtain⟨ak,fv,vv,wd,hA0,hTl⟩:=hM.at_;have HTl:=hide' hTl;have hKa:=(hM.bel.block v.K hKl).trans HBlk.out.2;have hBa:=(hM.bel.block u.B hBl).trans HBlk.out.1;clear k0 k2 k3 kf b3 b6 hgc c6 a3 af lA lB;have k0:=blkCell hKa 0;have b0:=blkCell hBa 0;have b1:=blkCell hBa 1;have b2:=blkCell hBa 2;have b3:=blkCell hBa 3;have b4:=blkCell hBa 4;have b5:=blkCell hBa 5;have q0:=blkCell hA0 0;have q1:=blkCell hA0 1;have q2:=blkCell hA0 2;have q3:=blkCell hA0 3;simp at k0 b0 b1 b2 b3 b4 b5 q0 q1 q2 q3;have hKl2:=blkLt hKa;have hBl2:=blkLt hBa;have hAl:=blkLt hA0;have HWa:=hide' (And.intro hM.bel (And.intro hKa (And.intro hBa hA0)));clear hM hKa hBa hA0 hTl;clear HMid HCom HNo HYes HWord HPs HTE HWE HWJ HKV HXL HT0 hekv hlt hj hpn4 hpn4'
    generalize hout:toldB s.d x=out at*;generalize hmk:mkB s.told=tB at*;have HOUT:=hide' hout;clear hmk hout;go_upto_region 17 with fail
    go_region_held3 (fun W'=>W'.cell? ⟨v.K,0,none⟩=some (.int .i64 s.d)∧W'.cell? ⟨u.B,0,none⟩=some (.int .i64 x.c.kind)∧W'.cell? ⟨u.B,1,none⟩=some (.slice ka kn kc)∧W'.cell? ⟨u.B,2,none⟩=some (.string x.c.val)∧W'.cell? ⟨u.B,3,none⟩=some (.string x.c.word)∧W'.cell? ⟨u.B,4,none⟩=some (.bool x.c.fatal)∧W'.cell? ⟨u.B,5,none⟩=some (.int .i64 x.c.id)∧W'.cell? ⟨w.heap.size,0,none⟩=some (.int .i64 ak)∧W'.cell? ⟨w.heap.size,1,none⟩=some fv∧W'.cell? ⟨w.heap.size,2,none⟩=some vv∧W'.cell? ⟨w.heap.size,3,none⟩=some (.string wd)) (go_keep) (first
     |(go_at_call 104;refine(HTl.out _ ?hx).mono ?_;(case hx=>repeat(first|with_reducible exact Below.refl _ _|with_reducible refine Below.drew ?_));rintro e w5 ⟨rfl,hb5⟩;have HB5:=hide' (below_undrew hb5);have r0:=(HB5.out.cell (p:=⟨v.K,0,none⟩) hKl2).trans k0;have r1:=(HB5.out.cell (p:=⟨u.B,0,none⟩) hBl2).trans b0;have r2:=(HB5.out.cell (p:=⟨u.B,1,none⟩) hBl2).trans b1;have r3:=(HB5.out.cell (p:=⟨u.B,2,none⟩) hBl2).trans b2;have r4:=(HB5.out.cell (p:=⟨u.B,3,none⟩) hBl2).trans b3;have r5:=(HB5.out.cell (p:=⟨u.B,4,none⟩) hBl2).trans b4;have r6:=(HB5.out.cell (p:=⟨u.B,5,none⟩) hBl2).trans b5;have r7:=(HB5.out.cell (p:=⟨w.heap.size,0,none⟩) hAl).trans q0;have r8:=(HB5.out.cell (p:=⟨w.heap.size,1,none⟩) hAl).trans q1;have r9:=(HB5.out.cell (p:=⟨w.heap.size,2,none⟩) hAl).trans q2;have r10:=(HB5.out.cell (p:=⟨w.heap.size,3,none⟩) hAl).trans q3;clear hb5 k0 b0 b1 b2 b3 b4 b5 q0 q1 q2 q3)
     |fail)
    all_goals
     have hb5:Below w.heap.size w w5:=HWa.out.1.trans (HB5.out.mono HWa.out.1.size)
     have hK5:=(HB5.out.block v.K hKl2).trans HWa.out.2.1
     have k2:=blkCell hK5 2
     have k3:=blkCell hK5 3
     simp at k2 k3
     have kf:=blkFree hK5
     have hKl5:=blkLt hK5
     have HG:=hide' (HFin.out w5 hb5)
     have hcap1:1≤cap:=by omega
     have hl1:1≤ws.length+1:=by omega
     clear hb5 hK5 HFin r0 r1 r2 r3 r4 r5 r6 r7 r8 r9 r10
     go_wp2
     ·go_ret;rw[HMk.out];refine .inr ⟨HY.out,rfl,⟨v.K,v.Y,_,ws⟩,?_,rfl,rfl,(HG.out _ (.inr ⟨rfl,by omega⟩)).2.1,(HG.out _ (.inr ⟨rfl,by omega⟩)).2.2⟩;rw[HOUT.out];exact(HG.out _ (.inr ⟨rfl,by omega⟩)).1
     ·go_ret;rw[HMk.out];refine .inr ⟨HY.out,rfl,⟨v.K,v.Y,_,ws⟩,?_,rfl,rfl,(HG.out _ (.inl rfl)).2.1,(HG.out _ (.inl rfl)).2.2⟩;rw[HOUT.out];exact(HG.out _ (.inl rfl)).1
end Go.Proofs.YtlonjggfnleolaaGreatDoor
