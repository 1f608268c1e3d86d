import Derived.Test.YtlonjggfnleolaaGreatDoorRnC
namespace Go.Proofs.YtlonjggfnleolaaGreatDoor
open Go.RowKit Go.Shelf Go.Proofs.Tryz
set_option linter.unusedVariables false
set_option maxHeartbeats 4000000
set_option maxRecDepth 100000
variable {x:QS}{w wr a:World}{b n A i j g2 cap2 l d:Nat}{v:Value}{m:List Value}{O:Obj}{k:Option Nat}{f c:Option Addr}{p:PS}
theorem Nw:∃i,prog.info? 4=some i/\i.zero=some (.bool false)/\i.size=1/\i.bytes=1:=by
 have h:(prog.info? 4).map (fun i=>(i.zero,i.size,i.bytes))=some (some (.bool false),1,1):=by kernel_rfl
 obtain⟨i,b,a⟩:=dX.1 h;simp only[gi]at a;exact⟨i,b,a.1,a.2.1,a.2.2⟩
theorem Jn (c:x.n=0)(d:x.fa=false)(e:x.re=false)(f:∀p∈x.ps,tV x.c.kind p):∀p∈x.ps,∃a v,p= .an a v/\(a=0\/a=1)/\v.size<=40:=by
 intro p b;have g:p.opn=false:=by
  unfold QS.n at c;rw[kE]at c;simpa using c p b
 have i:p.bad=false:=by
  unfold QS.fa at d;rw[List.any_eq_false]at d;simpa using d p b
 have j:p.ref=false:=by
  unfold QS.re at e;rw[List.any_eq_false]at e;simpa using e p b
 have h:=f p b;cases p using PS.el with
 |un=>cases g
 |op o id=>cases g
 |fl=>cases i
 |an a v=>
  refine⟨a,v,rfl,?_,h.2.1⟩;have:=h.1;simp[PS.ref]at j;omega
def uP (w w':World)(x:QS)(e:Ending):Prop:=∃f a l c g d,e= .returned (eW x.ak (.slice f a l) (.slice c g d) ⟨#[]⟩)/\Below w.heap.size w w'/\(x.c.kind≠1->f=none/\a=0/\l=0/\c=none/\g=0/\d=0)/\(x.c.kind=1->eZ w' f a l (x.ps.map PS.yes)/\dH w' c g d (x.ps.map PS.val))/\(∀b,(Value.slice f a l).ownBlock=some b->w.heap.size<=b)/\(∀b,(Value.slice c g d).ownBlock=some b->w.heap.size<=b)
theorem wA {e:TypeId}(h:w.ownsRow b e 1 v n m):∃a c,v= .slice a n c:=by
 rcases h.2 with⟨e,d⟩|⟨i,f,g,e,_⟩
 .exact⟨_,_,by rw[e,d]⟩
 .exact⟨_,_,e⟩
structure Ch (w wr:World)(A j:Nat)(fv vv:Value)(x:QS):Prop where
 jx:Below w.heap.size w wr
 res:wr.heap[w.heap.size]?=some (.cells #[.int .i64 0,.slice none 0 0,.slice none 0 0,.string ⟨#[]⟩] 91 (0,0))
 at_:wr.heap[A]?=some (.cells #[.int .i64 1,fv,vv,.string ⟨#[]⟩] 91 (0,0))
 fr:wr.ownsRow w.heap.size 4 1 fv j ((x.ps.take j).map (fun p=>Value.bool p.yes))
 vr:wr.ownsRow w.heap.size 9 1 vv j ((x.ps.take j).map (fun p=>Value.string p.val))
structure Qu (w wr:World)(A j:Nat)(fv vv:Value)(x:QS):Prop where
 jx:Below w.heap.size w wr
 res:wr.heap[w.heap.size]?=some (.cells #[.int .i64 0,.slice none 0 0,.slice none 0 0,.string ⟨#[]⟩] 91 (0,0))
 at_:wr.heap[A]?=some (.cells #[.int .i64 1,fv,vv,.string ⟨#[]⟩] 91 (0,0))
 fr:wr.ownsRow w.heap.size 4 1 fv (j+1) ((x.ps.take (j+1)).map (fun p=>Value.bool p.yes))
 vr:wr.ownsRow w.heap.size 9 1 vv j ((x.ps.take j).map (fun p=>Value.string p.val))
theorem BV {e:TypeId}(h:w.ownsRow b e 1 v n m){g:Nat}(a:v.ownBlock=some g):b<=g:=by
 rcases h.2 with⟨e,i⟩|⟨j,c,d,e,f,_⟩
 .rw[e]at a;cases a
 .rw[e]at a;cases a;exact f
theorem Ar (c:(wr.drew.alloc O).grownBy a k):∀b,b<wr.heap.size->k≠some b->b≠A->(a.setCell ⟨A,i,none⟩ v).heap[b]?=wr.heap[b]?:=fun b d f g=>
 (cz a ⟨A,i,none⟩ _ b g).trans ((c.block b (by simp;omega) (fun e=>f e.symm)).trans (cC wr.drew _ _ d))
theorem Aq (h:Below w.heap.size w wr)(c:(wr.drew.alloc O).grownBy a k)(j:∀g,k=some g->w.heap.size<=g)(l:w.heap.size<=A):Below w.heap.size w (a.setCell ⟨A,i,none⟩ v):=by
 have m:eH [] w wr:=eH.dP h;have n:=m.trans (eH.dP (M:=[]) ((ct _ wr).drew.alloc (PC _) O)) (fun b f=>by cases f);have d:=(n.grown c (fun b e=> .inr (j b e))).set (p:=⟨A,i,none⟩) (.inr l) v;exact⟨d.os,d.tape,d.output,d.size,fun b f=>d.block b f (by simp)⟩
theorem Ch.Ps {r:Value}(h:Ch w wr A j (.slice f j l) r x)(t:A=w.heap.size+1)(u:x.ps[j]?=some p)(i:a.ownsRow w.heap.size 4 1 (.slice (some ⟨g2,0,none⟩) (j+1) cap2) (j+1) ((x.ps.take j).map (fun p=>Value.bool p.yes)++[.bool p.yes]))(c:(wr.drew.alloc O).grownBy a (Value.slice f j l).ownBlock):Qu w (a.setCell ⟨A,1,none⟩ (.slice (some ⟨g2,0,none⟩) (j+1) cap2)) A j (.slice (some ⟨g2,0,none⟩) (j+1) cap2) r x:=by
 subst t;have s:=Ar (A:=w.heap.size+1) (i:=1) (v:= .slice (some ⟨g2,0,none⟩) (j+1) cap2) c;have o:∀{b T:Nat} {Z:Array Value},wr.heap[b]?=some (.cells Z T (0,0))->T≠4->(Value.slice f j l).ownBlock≠some b:=fun q v e=>by
  obtain⟨k,d⟩:=cZ h.fr e;rw[d]at q;simp at q;exact v q.2.symm
 have m:=(c.block _ (by have:=cA h.at_;simp;omega) (fun e=>o h.at_ (by decide) e.symm)).trans ((cC wr.drew _ _ (cA h.at_)).trans h.at_);refine⟨Aq h.jx c (fun g n=>BV h.fr n) (nE _),(s _ (cA h.res) (o h.res (by decide)) (by omega)).trans h.res,(dh (i:=1) m _).trans rfl,?_,dR h.vr (fun g n=>?_)⟩
 .rw[eV,u,dF];exact dR i (fun g n=>cz a ⟨w.heap.size+1,1,none⟩ _ g (fun e=>by
   obtain⟨k,d⟩:=cZ i n;rw[show g=w.heap.size+1 from e,m]at d;simp at d))
 .obtain⟨k,d⟩:=cZ h.vr n;exact s g (cA d) (o d (by decide)) (fun e=>by rw[e,h.at_]at d;simp at d)
theorem Qu.next {r:Value}(h:Qu w wr A j r (.slice c j d) x)(t:A=w.heap.size+1)(u:x.ps[j]?=some p)(k:a.ownsRow w.heap.size 9 1 (.slice (some ⟨g2,0,none⟩) (j+1) cap2) (j+1) ((x.ps.take j).map (fun p=>Value.string p.val)++[.string p.val]))(f:(wr.drew.alloc O).grownBy a (Value.slice c j d).ownBlock):Ch w (a.setCell ⟨A,2,none⟩ (.slice (some ⟨g2,0,none⟩) (j+1) cap2)) A (j+1) r (.slice (some ⟨g2,0,none⟩) (j+1) cap2) x:=by
 subst t;have s:=Ar (A:=w.heap.size+1) (i:=2) (v:= .slice (some ⟨g2,0,none⟩) (j+1) cap2) f;have o:∀{b T:Nat} {Z:Array Value},wr.heap[b]?=some (.cells Z T (0,0))->T≠9->(Value.slice c j d).ownBlock≠some b:=fun q v e=>by
  obtain⟨l,i⟩:=cZ h.vr e;rw[i]at q;simp at q;exact v q.2.symm
 have m:=(f.block _ (by have:=cA h.at_;simp;omega) (fun e=>o h.at_ (by decide) e.symm)).trans ((cC wr.drew _ _ (cA h.at_)).trans h.at_);refine⟨Aq h.jx f (fun g n=>BV h.vr n) (nE _),(s _ (cA h.res) (o h.res (by decide)) (by omega)).trans h.res,(dh (i:=2) m _).trans rfl,dR h.fr (fun g n=>?_),?_⟩
 .obtain⟨l,i⟩:=cZ h.fr n;exact s g (cA i) (o i (by decide)) (fun e=>by rw[e,h.at_]at i;simp at i)
 .rw[eV,u,dF];exact dR k (fun g n=>cz a ⟨w.heap.size+1,2,none⟩ _ g (fun e=>by
   obtain⟨l,i⟩:=cZ k n;rw[show g=w.heap.size+1 from e,m]at i;simp at i))
theorem NN (r:wr.ownsRow b 4 1 (.slice f x.ps.length l) x.ps.length ((x.ps.take x.ps.length).map (fun p=>Value.bool p.yes)))(t:wr.ownsRow b 9 1 (.slice c x.ps.length d) x.ps.length ((x.ps.take x.ps.length).map (fun p=>Value.string p.val)))(y:x.ps.length<=4)(u:∀p∈x.ps,p.val.size<=40):eZ wr f x.ps.length l (x.ps.map PS.yes)/\dH wr c x.ps.length d (x.ps.map PS.val):=by
 rw[gd]at r t;refine⟨⟨by simp,?_,by simp;omega,?_⟩,⟨by simp,?_,by simp;omega,fun s a=>?_,?_⟩⟩
 .rcases r.2 with⟨e,n⟩|⟨g,j,h,e,_,_,o,_⟩
  .rw[n];exact cG _
  .cases e;exact o
 .rcases r.2 with⟨e,n⟩|⟨g,j,h,e,_,q,o,_,_,v⟩
  .obtain⟨rfl,_,rfl⟩:f=none/\x.ps.length=0/\l=0:=by grind
   exact .inr ⟨by simp_all,rfl⟩
  .cases e;refine .inl ⟨g,0,rfl,cA q,fun i s a=>?_⟩;have w:=(cq.1 a).1;rw[dp]at w;rw[cn q (0+i),eB];have k:(h.toList.take (x.ps.length*1))[i]?=(x.ps.map (fun p=>Value.bool p.yes))[i]?:=by rw[v]
   rw[dx (by omega),cL]at k;rw[cL]at a;cases m:x.ps[i]?with
   |none=>rw[m]at a;cases a
   |some p=>rw[m]at a k;cases a;simpa using k
 .rcases t.2 with⟨e,n⟩|⟨g,j,h,e,_,_,o,_⟩
  .rw[n];exact cG _
  .cases e;exact o
 .obtain⟨p,m,rfl⟩:=dA.1 a;have:=u p m;unfold maxLen;omega
 .rcases t.2 with⟨e,n⟩|⟨g,j,h,e,_,q,o,_,_,v⟩
  .obtain⟨rfl,_,rfl⟩:c=none/\x.ps.length=0/\d=0:=by grind
   exact .inr ⟨by grind,rfl⟩
  .cases e;refine .inl ⟨g,0,rfl,cA q,fun i s a=>?_⟩;have w:=(cq.1 a).1;rw[dp]at w;rw[cn q (0+i),eB];have k:(h.toList.take (x.ps.length*1))[i]?=(x.ps.map (fun p=>Value.string p.val))[i]?:=by rw[v]
   rw[dx (by omega),cL]at k;rw[cL]at a;cases m:x.ps[i]?with
   |none=>rw[m]at a;cases a
   |some p=>rw[m]at a k;cases a;simpa using k
theorem Mo {v:sH}(h:mX w v x)(hn:x.n=0)(hf:x.fa=false)(hr:x.re=false)(aa:∀p∈x.ps,tV x.c.kind p)(h1:1<=x.ps.length)(h4:x.ps.length<=4)(hk:x.c.kind=1):Calls prog 174 #[.pointer (some ⟨v.B,0,none⟩)] w fun e w'=>uP w w' x e:=by
 have S:=Jn hn hf hr aa;have hB:=h.eC;unfold Rb at hB;obtain⟨pa,pc,ab⟩:=jr h.row;have ac:=h.len;rw[ab,hk]at hB;have b0:=cn hB 0;have b6:=cn hB 6;simp at b0 b6;have ad:=cA hB;have ae:Hid (∀(r:Nat) (p:PS),x.ps[r]?=some p->∃(g b F o id D:Nat) (vl:ByteArray),Value.slice pa v.bs.length pc= .slice (some ⟨g,0,none⟩) v.bs.length F/\g<w.heap.size/\w.cell? ⟨g,r,none⟩=some (.pointer (some ⟨b,0,none⟩))/\w.heap[b]?=some (xe o id 1 D vl)/\p.yes=decide (D=0)/\p.val=vl/\D<=1/\vl.size<=40):=fun r p H=>by
  have aB:r<v.bs.length:=by rw[ac];exact(cq.1 H).1
  obtain⟨b,t⟩:∃b,v.bs[r]?=some b:=⟨_,cp aB⟩
  obtain⟨g,F,e1,e2,e3⟩:=pE h.row (by simp) (i:=r) (x:=dC b) (by rw[cL,t];rfl);rw[ab]at e1;obtain⟨D,vl,rfl,aP,aC⟩:=S p (cu H);obtain⟨o,id,aD⟩:=h.ok r b _ t H;exact⟨g,b,F,o,id,D,vl,e1,e2,e3,aD,rfl,rfl,by omega,aC⟩
 obtain⟨p0,aj⟩:∃p0,x.ps[0]?=some p0:=⟨_,cp (by omega)⟩
 obtain⟨g0,aQ,aN,o0,aR,AU,aS,ea,eb,ec,ed,ee,ef,eg,eh⟩:=ae.out 0 p0 aj;unfold xe at ed;have q3:=cn ed 3;simp at q3;have aT:=cA ed;have aE:x.ak=1:=by unfold QS.ak;rw[hf,hr,hk];simp
 have I:=cb ac;have aF:=cb aa;clear h S hB ab aj ed hn hf hr aa ee ef;cases ea;unfold uP;rw[aE];generalize ak:v.bs.length=n at*;have HN:=cb ak;have aU:1<=n:=by rw[I.out];exact h1
 have aV:n<=4:=by rw[I.out];exact h4
 clear ak ac;generalize v.B=B at*;obtain⟨i4,al,am,an,ao⟩:=Nw;have J:=cb (cd al (cd am (cd an ao)));obtain⟨i9,ap,aq,ar,au⟩:=wR;have K:=cb (cd ap (cd aq (cd ar au)));clear al am an ao ap aq ar au;have aW:(0:Int)<(n:Int):=by omega
 go_enter func174,ntmps174;go_wp2_with fail
 have aG:Hid (Ch w ((w.alloc (.cells #[.int .i64 0,.slice none 0 0,.slice none 0 0,.string ⟨#[]⟩] 91)).alloc (.cells #[.int .i64 1,.slice none 0 0,.slice none 0 0,.string ⟨#[]⟩] 91)) (w.heap.size+1) 0 (.slice none 0 0) (.slice none 0 0) x):=⟨cU.alloc (by simp) _,dI (du w _) _,fD (by simp),dv _ _ _ _,dv _ _ _ _⟩
 generalize (w.alloc (.cells #[.int .i64 0,.slice none 0 0,.slice none 0 0,.string ⟨#[]⟩] 91)).alloc (.cells #[.int .i64 1,.slice none 0 0,.slice none 0 0,.string ⟨#[]⟩] 91)=w2 at*;go_loopw [5] (fun i wr=>∃(j:Nat) (fv vv:Value),j<=n/\i= .int .i64 (j:Int)/\Hid (Ch w wr (w.heap.size+1) j fv vv x)) (fun i _=>n-(intOf i).toNat)
 case atStart=>exact⟨0,_,_,cG _,rfl,aG⟩
 case round=>
  obtain⟨j,fv,vv,hj,rfl,q⟩:=hrel;obtain⟨f,l,rfl⟩:=wA q.out.fr;obtain⟨c,d,rfl⟩:=wA q.out.vr;have lB:=cH ad q.out.jx.size;have c6:=(q.out.jx.cell (p:=⟨B,6,none⟩) ad).trans b6;have a1:=cn q.out.at_ 1;have a2:=cn q.out.at_ 2;have af:=dN q.out.at_;have lA:=cA q.out.at_;simp at a1 a2;by_cases aH:j<n
  .have aO:(j:Int)<(n:Int):=by omega
   obtain⟨p,H⟩:∃p,x.ps[j]?=some p:=⟨_,cp (by rw[<-I.out];exact aH)⟩
   obtain⟨g,b,F,o,id,D,vl,e1,e2,e3,E,e5,e6,e7,e8⟩:=ae.out j p H;cases e1;unfold xe at E;have k3:=cn E 3;have k4:=cn E 4;simp at k3 k4;have lb:=cA E;have d1:=(q.out.jx.cell (p:=⟨g0,j,none⟩) e2).trans e3;have d3:=(q.out.jx.cell (p:=⟨b,3,none⟩) lb).trans k3;have d4:=(q.out.jx.cell (p:=⟨b,4,none⟩) lb).trans k4;have lg:=cH e2 q.out.jx.size;have aI:=cH lb q.out.jx.size;have HP:=cb (cd H (cd e5 e6));clear e3 E k3 k4 H e5 e6;have av:Hid (∀W,Below wr.heap.size wr W->W.ownsRow w.heap.size 4 1 (.slice f j l) j ((x.ps.take j).map (fun p=>Value.bool p.yes))):=fun W hW=>dR q.out.fr (fun g hg=>by obtain⟨A,z⟩:=cZ q.out.fr hg;exact hW.block g (cA z))
   have ag:(Value.slice f j l).ownBlock≠some (w.heap.size+1):=fun e=>by
    obtain⟨A,z⟩:=cZ q.out.fr e;rw[q.out.at_]at z;simp at z
   go_upto_region 12 with fail
   go_cut [5] (fun s5 W=>s5= .int .i64 (j:Int)/\∃aw,Qu w W (w.heap.size+1) j aw (.slice c j d) x)
   case first=>
    go_region_law (first
     |(refine step_append_lies _ (by rfl) _ _ _ (by rfl) w.heap.size 4 i4 (.bool false) 1 1 ju J.out.1 J.out.2.1 J.out.2.2.1 J.out.2.2.2 (by rfl) (by omega) (.slice f j l) j ((x.ps.take j).map (fun p=>Value.bool p.yes)) (by rfl) (av.out _ (by repeat(first|with_reducible exact ct _ _|with_reducible refine dV ?_|with_reducible refine dU ?_ (by simp;try omega) _))) ⟨wr.heap.size,0,none⟩ 1 1 [Value.bool ((D:Int)==0)] (by rfl) (by rfl) (World.news_of_block (cs:=#[.bool ((D:Int)==0)]) (du wr.drew _)) (fun u hu=>by simp at hu;subst hu;rfl) (by omega) (by unfold maxLen;omega) (by omega) (by simp;have:=q.out.jx.size;omega) _ rfl ?_;intro g2 cap2 a s m C ax;have ah:a.cell? ⟨w.heap.size+1,1,none⟩=some (.slice f j l):=(m.cell_far ⟨w.heap.size+1,1,none⟩ (by simp;omega) (fun e=>ag e.symm)).trans ((cS (w:=wr.drew) (cC wr.drew _ _ lA)).trans a1);have ai:a.frozen? ⟨w.heap.size+1,1,none⟩=false:=(m.frozen_far ⟨w.heap.size+1,1,none⟩ (by simp;omega) (fun e=>ag e.symm)).trans ((gm (w:=wr.drew) (cC wr.drew _ _ lA)).trans (af 1));have L:=cb (cd s (cd m C));clear s m C)
     |fail)
    all_goals
     have ay:((D:Int)==0)=p.yes:=by
      rw[HP.out.2.1];cases D with
      |zero=>rfl
      |succ k=>simp;omega
     rw[ay]at L
     have y:=cb (q.out.Ps rfl HP.out.1 L.out.1 L.out.2.1)
     clear ah ai L
     generalize a.setCell ⟨w.heap.size+1,1,none⟩ (.slice (some ⟨g2,0,none⟩) (j+1) cap2)=wf at*
     go_wp2_with fail
     go_meet
     case rel=>exact⟨rfl,_,y.out⟩
   case rest=>
    obtain⟨rfl,aw,hM⟩:=hcut;have y:=cb hM;clear hM;clear a1 a2 af lA c6 d1 d3 d4 lg aI lB ag av;obtain⟨aX,aY,rfl⟩:=wA y.out.fr;have c6:=(y.out.jx.cell (p:=⟨B,6,none⟩) ad).trans b6;have a2:=cn y.out.at_ 2;have af:=dN y.out.at_;have lA:=cA y.out.at_;simp at a2;obtain⟨_,b',_,_,_,aZ,az,e1,a4,e3,E,e5,e6,a5,a6⟩:=ae.out j p HP.out.1;cases e1;unfold xe at E;have k4:=cn E 4;simp at k4;have lb:=cA E;have d1:=(y.out.jx.cell (p:=⟨g0,j,none⟩) e2).trans e3;have d4:=(y.out.jx.cell (p:=⟨b',4,none⟩) lb).trans k4;have HV:=cb e6
    clear e3 E k4 e5 e6;have aJ:Hid (∀W,Below wc.heap.size wc W->W.ownsRow w.heap.size 9 1 (.slice c j d) j ((x.ps.take j).map (fun p=>Value.string p.val))):=fun W hW=>dR y.out.vr (fun g hg=>by obtain⟨A,z⟩:=cZ y.out.vr hg;exact hW.block g (cA z))
    have aA:(Value.slice c j d).ownBlock≠some (w.heap.size+1):=fun e=>by
     obtain⟨A,z⟩:=cZ y.out.vr e;rw[y.out.at_]at z;simp at z
    go_upto_region 13 with fail
    go_region_law (first
     |(refine step_append_lies _ (by rfl) _ _ _ (by rfl) w.heap.size 9 i9 (.string ⟨#[]⟩) 1 16 eO K.out.1 K.out.2.1 K.out.2.2.1 K.out.2.2.2 (by rfl) (by omega) (.slice c j d) j ((x.ps.take j).map (fun p=>Value.string p.val)) (by rfl) (aJ.out _ (by repeat(first|with_reducible exact ct _ _|with_reducible refine dV ?_|with_reducible refine dU ?_ (by simp;try omega) _))) ⟨wc.heap.size,0,none⟩ 1 1 [Value.string az] (by rfl) (by rfl) (World.news_of_block (cs:=#[.string az]) (du wc.drew _)) (fun u hu=>by simp at hu;subst hu;rfl) (by omega) (by unfold maxLen;omega) (by omega) (by simp;have:=y.out.jx.size;omega) _ rfl ?_;intro g2 cap2 a s m C ax;have ah:a.cell? ⟨w.heap.size+1,2,none⟩=some (.slice c j d):=(m.cell_far ⟨w.heap.size+1,2,none⟩ (by simp;omega) (fun e=>aA e.symm)).trans ((cS (w:=wc.drew) (cC wc.drew _ _ lA)).trans a2);have ai:a.frozen? ⟨w.heap.size+1,2,none⟩=false:=(m.frozen_far ⟨w.heap.size+1,2,none⟩ (by simp;omega) (fun e=>aA e.symm)).trans ((gm (w:=wc.drew) (cC wc.drew _ _ lA)).trans (af 2));have L:=cb (cd s (cd m C));clear s m C)
     |fail)
    all_goals
     rw[<-HV.out]at L
     have aK:=cb (y.out.next rfl HP.out.1 L.out.1 L.out.2.1)
     clear ah ai L
     generalize a.setCell ⟨w.heap.size+1,2,none⟩ (.slice (some ⟨g2,0,none⟩) (j+1) cap2)=wf at*
     go_wp2
     go_roundw
     case rel=>exact⟨j+1,_,_,by omega,by go_num,aK⟩
     case measure=>simp[intOf];omega
  .have aL:j=n:=by omega
   subst aL;have a0:=cn q.out.at_ 0;have a3:=cn q.out.at_ 3;have r0:=cn q.out.res 0;have r1:=cn q.out.res 1;have r2:=cn q.out.res 2;have r3:=cn q.out.res 3;have rf:=dN q.out.res;simp at a0 a3 r0 r1 r2 r3;have HF:Hid (∀U V X Y,∃M N O P Q R,Ending.returned (eW 1 (.slice f j l) (.slice c j d) ⟨#[]⟩)= .returned (eW 1 (.slice M N O) (.slice P Q R) ⟨#[]⟩)/\Below w.heap.size w ((((wr.setCell ⟨w.heap.size,0,none⟩ U).setCell ⟨w.heap.size,1,none⟩ V).setCell ⟨w.heap.size,2,none⟩ X).setCell ⟨w.heap.size,3,none⟩ Y)/\(x.c.kind≠1->M=none/\N=0/\O=0/\P=none/\Q=0/\R=0)/\(x.c.kind=1->eZ ((((wr.setCell ⟨w.heap.size,0,none⟩ U).setCell ⟨w.heap.size,1,none⟩ V).setCell ⟨w.heap.size,2,none⟩ X).setCell ⟨w.heap.size,3,none⟩ Y) M N O (x.ps.map PS.yes)/\dH ((((wr.setCell ⟨w.heap.size,0,none⟩ U).setCell ⟨w.heap.size,1,none⟩ V).setCell ⟨w.heap.size,2,none⟩ X).setCell ⟨w.heap.size,3,none⟩ Y) P Q R (x.ps.map PS.val))/\(∀b,(Value.slice M N O).ownBlock=some b->w.heap.size<=b)/\(∀b,(Value.slice P Q R).ownBlock=some b->w.heap.size<=b)):=fun U V X Y=>by
    have e:=I.out;have h0:=q.out;rw[e]at h0⊢;have kb:Below w.heap.size w ((((wr.setCell ⟨w.heap.size,0,none⟩ U).setCell ⟨w.heap.size,1,none⟩ V).setCell ⟨w.heap.size,2,none⟩ X).setCell ⟨w.heap.size,3,none⟩ Y):=(((h0.jx.setCell (PC _) _).setCell (PC _) _).setCell (PC _) _).setCell (PC _) _;have kk:∀b,b≠w.heap.size->((((wr.setCell ⟨w.heap.size,0,none⟩ U).setCell ⟨w.heap.size,1,none⟩ V).setCell ⟨w.heap.size,2,none⟩ X).setCell ⟨w.heap.size,3,none⟩ Y).heap[b]?=wr.heap[b]?:=fun b t=>by
     rw[cz _ ⟨w.heap.size,3,none⟩ _ b t,cz _ ⟨w.heap.size,2,none⟩ _ b t,cz _ ⟨w.heap.size,1,none⟩ _ b t,cz _ ⟨w.heap.size,0,none⟩ _ b t]
    have nr:∀{T:Nat} {Z:Array Value} {b:Nat},wr.heap[b]?=some (.cells Z T (0,0))->T≠91->b≠w.heap.size:=fun t hT e=>by
     rw[e,h0.res]at t;simp at t;exact hT t.2.symm
    have hf:(((((wr.setCell ⟨w.heap.size,0,none⟩ U).setCell ⟨w.heap.size,1,none⟩ V).setCell ⟨w.heap.size,2,none⟩ X).setCell ⟨w.heap.size,3,none⟩ Y)).ownsRow w.heap.size 4 1 (.slice f x.ps.length l) x.ps.length ((x.ps.take x.ps.length).map (fun p=>Value.bool p.yes)):=dR h0.fr (fun g hg=>by obtain⟨A,z⟩:=cZ h0.fr hg;exact kk g (nr z (by decide)));have hv:(((((wr.setCell ⟨w.heap.size,0,none⟩ U).setCell ⟨w.heap.size,1,none⟩ V).setCell ⟨w.heap.size,2,none⟩ X).setCell ⟨w.heap.size,3,none⟩ Y)).ownsRow w.heap.size 9 1 (.slice c x.ps.length d) x.ps.length ((x.ps.take x.ps.length).map (fun p=>Value.string p.val)):=dR h0.vr (fun g hg=>by obtain⟨A,z⟩:=cZ h0.vr hg;exact kk g (nr z (by decide)))
    have hl:=NN hf hv h4 (fun p H=>zj (aF.out p H));exact⟨_,_,_,_,_,_,rfl,kb,fun aM=>absurd hk aM,fun _=>hl,fun b t=>BV hf t,fun b t=>BV hv t⟩
   clear q;go_wp2;refine cE (v:=eW 1 (.slice f j l) (.slice c j d) ⟨#[]⟩) (by simp[results,results174,go_sem,eW,r0,r1,r2,r3]) rfl (HF.out _ _ _ _)
end Go.Proofs.YtlonjggfnleolaaGreatDoor
