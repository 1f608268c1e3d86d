import Derived.Test.YtlonjggfnleolaaGreatDoorRnKa
set_option linter.unusedVariables false
set_option maxHeartbeats 1000000
set_option maxRecDepth 100000
namespace Go.Proofs.YtlonjggfnleolaaGreatDoor
open Go.RowKit Go.Shelf Go.Conc Go.Proofs.Tryz
variable {W:World}{C R l t m:Nat}{d:Int}
def xr (C R l t:Nat):fB:=⟨Kl C R l t,[]⟩
def tZ (d:Int):dE:=⟨d,AU,[],[]⟩
theorem gL.new (b:dT d t)(c:W.heap[R]?=some (BE t (.slice none 0 0) 0 false false))(a:W.heap[l]?=some (.chan m #[] false 0 0 false))(e:W.heap[C]?=some (uT R l (.slice none 0 0) (.pointer none) (.slice none 0 0))):gL W m (xr C R l t) (tZ d):=by
 have h:=FH.new (a:=m) b c a e;refine⟨⟨h.eC,h.rd,h.di,h.chan,h.row,h.ql,h.Bj,h.DU,h.ab⟩,rfl,⟨rfl,fun i v x f=>(by simp[xr]at f),by simp[xr,nI]⟩,fun x g=>(by simp[tZ]at g)⟩
theorem fs.opened {w:World}{X U pt g V:Nat}{F:Value}{n:List fB}{cs:List dE}{I:List fe}{Y:List dS}(h:fs w X U pt m g V F n cs I Y){g2 cap2:Nat}(hn:n.length<4)(hd:dT d t)(k:eH (X::F.ownBlock.toList) w W)(hX:W.heap[X]?=some (CQ U pt m (.slice (some ⟨g2,0,none⟩) (n.length+1) cap2) (.slice (some ⟨g,0,none⟩) U V)))(L:W.ownsRow 0 116 1 (.slice (some ⟨g2,0,none⟩) (n.length+1) cap2) (n.length+1) (n.map (fun v=>dC v.k.C)++[.pointer (some ⟨C,0,none⟩)]))(aa:F.ownBlock=some g2\/w.heap.size<=g2)(lC:w.heap.size<=C)(lR:w.heap.size<=R)(ah:w.heap.size<=l)(hR:W.heap[R]?=some (BE t (.slice none 0 0) 0 false false))(ab:W.heap[l]?=some (.chan m #[] false 0 0 false))(hC:W.heap[C]?=some (uT R l (.slice none 0 0) (.pointer none) (.slice none 0 0))):fs W X U pt m g V (.slice (some ⟨g2,0,none⟩) (n.length+1) cap2) (n++[xr C R l t]) (cs++[tZ d]) I Y/\eH (eL X F n I) w W/\dB w (eL X F n I) (eL X (.slice (some ⟨g2,0,none⟩) (n.length+1) cap2) (n++[xr C R l t]) I):=by
 have M:=gL.new hd hR ab hC;have q:∀b∈(xr C R l t).cM,w.heap.size<=b:=fun b hb=>by
  have N:b∈[C,l,R]:=by
   simpa [fB.cM,xr,Kl,gU.cM,Value.ownBlock,nI]using hb
  simp at N;rcases N with e|e|e<;>omega
 have nM:∀(b T:Nat) (Z:Array Value) (f:Nat×Nat),w.heap[b]?=some (.cells Z T f)->T≠129->T≠116->b∉X::F.ownBlock.toList:=fun b T Z f hZ r A J=>by
  rcases cQ.1 J with e|e
  .have hb:=h.eC;unfold CQ at hb;rw[<-e,hZ]at hb;simp at hb;exact r hb.2.1
  .obtain⟨ac,K⟩:=cZ h.row (lj e);rw[hZ]at K;simp at K;exact A K.2.1
 have O:∀(b:Nat) (o:Obj),w.heap[b]?=some o->(∀Z T f,o≠ .cells Z T f)->b∉X::F.ownBlock.toList:=fun b o ho r J=>by
  rcases cQ.1 J with e|e
  .have hb:=h.eC;rw[<-e,ho]at hb;exact r _ _ _ (gQ hb)
  .obtain⟨ac,K⟩:=cZ h.row (lj e);rw[ho]at K;exact r _ _ _ (gQ K)
 have P:∀(j:Nat) (u:fB),n[j]?=some u->∀b∈u.cM,b<w.heap.size:=fun j u x b hb=>by
  obtain⟨s,hs,y⟩:=h.get x;exact y.old b hb
 have kc:∀(j:Nat) (u:fB),n[j]?=some u->∀b∈u.cM,W.heap[b]?=w.heap[b]?:=fun j u x b hb=>by
  obtain⟨s,hs,y⟩:=h.get x;rcases y.kind b hb with⟨Z,T,f,r,A⟩|⟨ai,aj,cl,a,c,tm,r⟩
  .exact k.block b (cA r) (nM b T Z f r (by grind) (by rcases A with e|e|e|e|e|e|e<;>(subst e;decide)))
  .exact k.block b (cA r) (O b _ r (fun Z T f e=>by cases e))
 have Q:ke W I Y:=h.ji.keep (fun b hb=>by
  obtain⟨j,v,B,ad⟩:=gJ.1 hb;obtain⟨v',s,p,hs,y⟩:=h.ji.get (cq.1 B).1;rw[B]at p;cases p;rcases y.kind b ad with⟨Z,T,f,r,A⟩|⟨es,c,r⟩
  .exact k.block _ (cA r) (nM _ _ _ _ r (by grind) (by rcases A with e|e<;>(subst e;decide)))
  .exact k.block _ (cA r) (O _ _ r (fun Z T f e=>by cases e)))
 obtain⟨Zg,z1,z2⟩:=h.gb;have hcut:∀(j:Nat) (u:fB),(n++[xr C R l t])[j]?=some u->(j<n.length/\n[j]?=some u)\/(j=n.length/\u=xr C R l t):=fun j u x=>by
  by_cases D:j<n.length
  .rw[cW D]at x;exact .inl ⟨D,x⟩
  .have ae:=(cq.1 x).1;simp at ae;have af:j=n.length:=by omega
   subst af;rw[dg (PC _)]at x;simp at x;exact .inr ⟨rfl,x.symm⟩
 refine⟨⟨hX,⟨Zg,k.keep z1 (nM _ _ _ _ z1 (by decide) (by decide)),z2⟩,h.len,h.s1,h.s4,h.Re,h.yM,h.w6,?_,by simp[h.cl],by rw[cI,fu];omega,fun i v s B hs=>?_,fun i j v u ag B x b hb H=>?_,Q,fun i v B b hb J=>?_,fun o u x=>?_,fun s hs=>?_⟩,k.more (fun b hb=>?_),fun b hb=>?_⟩
 .rw[cI,fu,dF];exact L
 .rcases hcut i v B with⟨E,p⟩|⟨E,rfl⟩
  .rw[cW (by rw[<-h.cl];exact E)]at hs;have y:=h.jV i v s p hs;exact y.keep (fun b hb=>kc i v p b hb)
  .rw[dg (by rw[E,h.cl];exact PC _)]at hs;rw[E,h.cl]at hs;simp at hs;rw[<-hs];exact M
 .rcases hcut i v B with⟨E,p⟩|⟨E,rfl⟩
  .rcases hcut j u x with⟨D,z⟩|⟨D,rfl⟩
   .exact h.cap i j v u ag p z b hb H
   .have r:=P i v p b hb;have A:=q b H;omega
  .rcases hcut j u x with⟨D,z⟩|⟨D,rfl⟩
   .have r:=P j u z b H;have A:=q b hb;omega
   .omega
 .rcases hcut i v B with⟨E,p⟩|⟨E,rfl⟩
  .exact h.ap i v p b hb J
  .have r:=h.ji.old b J;have A:=q b hb;omega
 .have e:mN (n++[xr C R l t]) (cs++[tZ d])=mN n cs:=by
   rw[vx _ _ _ _ h.cl];show mN n cs++mN [xr C R l t] [tZ d]=_;rw[show mN [xr C R l t] [tZ d]=[]from rfl,il]
  rw[e];exact h.mr o u x
 .rcases cr.1 hs with hs|hs
  .exact h.wl s hs
  .simp at hs;rw[hs];exact cG _
 .unfold eL;rcases cQ.1 hb with e|e
  .rw[e];exact jS ..
  .exact cJ _ (cr.2 (.inl e))
 .unfold eL at hb⊢;rcases cQ.1 hb with e|hb
  .exact .inl (by rw[e];exact jS ..)
  rcases cr.1 hb with hb|hb
  .have e':b=g2:=by simpa [Value.ownBlock]using hb
   rcases aa with e2|e2
   .exact .inl (cJ _ (cr.2 (.inl (by rw[e2,e'];simp))))
   .exact .inr (by omega)
  rcases cr.1 hb with hb|hb
  .obtain⟨j,u,x,S⟩:=oo.1 hb;rcases hcut j u x with⟨D,z⟩|⟨D,rfl⟩
   .exact .inl (cJ _ (cr.2 (.inr (cr.2 (.inl (oo.2 ⟨j,u,z,S⟩))))))
   .exact .inr (q b S)
  .exact .inl (cJ _ (cr.2 (.inr (cr.2 (.inr hb)))))
variable {w:World}{X k pt i g l:Nat}{m:Value}{f:List fB}{cs:List dE}{j:List fe}{n:List dS}
theorem Ku (h:fs w X k pt i g l m f cs j n)(d:Int)(x:(d<1\/3<d)\/f.length=4):Calls prog 54 #[.pointer (some ⟨X,0,none⟩),.int .i64 d] w fun e w'=>e= .returned (.tuple #[.int .i64 0,.int .i64 1])/\Below w.heap.size w w':=by
 obtain⟨a,c,rfl⟩:=h.Ct;have r:=(PG h.eC).2.2.2.1;have b:=cA h.eC;by_cases o:d<1\/3<d
 .have p:=cb (Qj d w o);go_enter func54,ntmps54;go_wp2_with fail
  refine p.out.mono ?_;rintro e y ⟨rfl,t⟩;have q:=cb t;go_wp2;go_ret2;exact⟨rfl,q.out⟩
 .have u:f.length=4:=by simp_all
  have p:=cb (sL d w (by omega));rw[u]at r;have s:Below w.heap.size w (w.alloc (BE (uL d) (.slice none 0 0) 0 false false)):=cU;have d3:=(s.cell (p:=⟨X,3,none⟩) b).trans r;have q:=cb s;go_enter func54,ntmps54;go_wp2_with fail
  refine p.out.mono ?_;rintro e z ⟨rfl,v⟩;go_wp2;go_ret2;exact⟨rfl,q.out⟩
theorem Ia (h:fs w X k pt i g l m f cs j n)(d:Int)(hd:d=1\/d=2\/d=3)(hn:f.length<4)(T:i<=6):Calls prog 54 #[.pointer (some ⟨X,0,none⟩),.int .i64 d] w fun e w'=>e= .returned (.tuple #[.int .i64 (f.length:Int),.int .i64 0])/\∃(U:Value) (v:fB),fs w' X k pt i g l U (f++[v]) (cs++[tZ d]) j n/\eH (eL X m f j) w w'/\dB w (eL X m f j) (eL X U (f++[v]) j):=by
 obtain⟨a,c,rfl⟩:=h.Ct;obtain⟨_,_,c2,c3,_,cf⟩:=PG h.eC;have z:=cA h.eC;have HN:=cb (sL d w hd);have HD:=cb (MP hd);have S:Below w.heap.size w (w.alloc (BE (uL d) (.slice none 0 0) 0 false false)):=cU;have d3:=(S.cell (p:=⟨X,3,none⟩) z).trans c3;have d2:=(S.cell (p:=⟨X,2,none⟩) z).trans c2;have df:=(S.frozen (p:=⟨X,3,none⟩) z).trans (cf 3);have t:X<(w.alloc (BE (uL d) (.slice none 0 0) 0 false false)).heap.size:=cH z S.size;have V:Hid (∀W,Below w.heap.size w W->W.ownsRow 0 116 1 (.slice a f.length c) f.length (f.map (fun v=>dC v.k.C))):=fun W hW=>dR h.row (fun gg hg=>by obtain⟨N,D⟩:=cZ h.row hg;exact hW.block gg (cA D))
 have Y:Hid (∀W,Calls prog 86 #[.pointer (some ⟨w.heap.size,0,none⟩),.int .i64 (i:Int)] W fun e w'=>e= .returned (.pointer (some ⟨W.heap.size+1,0,none⟩))/\w'=(W.alloc (.chan i #[] false 0 0 false)).alloc (uT w.heap.size W.heap.size (.slice none 0 0) (.pointer none) (.slice none 0 0))):=fun W=>zA w.heap.size i W T
 obtain⟨i1,hi,Z,aa,ab⟩:=LK;have HI:=cb (cd hi (cd Z (cd aa ab)));have O:=cb S;have HH:=cb h;have ac:(Value.slice a f.length c).ownBlock≠some X:=fun e=>by
  obtain⟨N,D⟩:=cZ h.row e;have I:=h.eC;unfold CQ at I;rw[I]at D;cases D
 have P:=cb ac;clear S c3 c2 cf h hi Z aa ab hd ac;generalize ad:w.alloc (BE (uL d) (.slice none 0 0) 0 false false)=w1 at*;have ae:=cb ad;clear ad;go_enter func54,ntmps54;go_wp2_with fail
 go_at_call 43;refine HN.out.mono ?_;rintro e x ⟨rfl,ap⟩;subst ap;go_wp2_with fail
 go_region_law (first
  |(go_simp;go_at_call 86;refine(Y.out _).mono ?_;rintro e y ⟨rfl,Q⟩;have A:Below x.heap.size x y:=(by rw[Q];exact((ct _ x).drew.alloc (PC _) _).alloc (by simp) _);have q:=cb (cd Q A);have e3:=(A.cell (p:=⟨X,3,none⟩) t).trans d3;have ef:=(A.frozen (p:=⟨X,3,none⟩) t).trans df;have J:=cH t A.size;clear Q A)
  |(refine step_append_lies _ (by rfl) _ _ _ (by rfl) 0 116 i1 (.pointer none) 1 8 underlying126 HI.out.1 HI.out.2.1 HI.out.2.2.1 HI.out.2.2.2 (by rfl) (by omega) (.slice a f.length c) f.length (f.map (fun v=>dC v.k.C)) (by rfl) (V.out _ ((O.out.trans (q.out.2.mono O.out.size)).alloc (cP O.out.size q.out.2.size) _)) ⟨y.heap.size,0,none⟩ 1 1 [.pointer (some ⟨x.heap.size+1,0,none⟩)] (by rfl) (by rfl) (World.news_of_block (cs:=#[.pointer (some ⟨x.heap.size+1,0,none⟩)]) (du y _)) (fun u hu=>by simp at hu;subst hu;rfl) (by omega) (by unfold maxLen;omega) (by omega) (cG _) _ rfl ?_;intro E p F K r af ag;have aq:F.cell? ⟨X,3,none⟩=some (.slice a f.length c):=(r.cell_far ⟨X,3,none⟩ (by simp;omega) (fun e=>P.out e.symm)).trans ((cS (w:=y) (cC y _ _ J)).trans e3);have ar:F.frozen? ⟨X,3,none⟩=false:=(r.frozen_far ⟨X,3,none⟩ (by simp;omega) (fun e=>P.out e.symm)).trans ((gm (w:=y) (cC y _ _ J)).trans ef);have HG:=cb (cd K (cd r (cd af ag)));clear K r af)
  |fail)
 all_goals
  have ah:y.heap[X]?=some (CQ k pt i (.slice a f.length c) (.slice (some ⟨g,0,none⟩) k l)):=(q.out.2.block X t).trans ((O.out.block X z).trans HH.out.eC)
  have B:∀(b:Nat) (o:Obj),y.heap[b]?=some o->(Value.slice a f.length c).ownBlock≠some b->F.heap[b]?=some o:=fun b o I hn=>(HG.out.2.1.block b (by rw[cF];have:=cA I;omega) (fun e=>hn e.symm)).trans ((cC _ _ _ (cA I)).trans I)
  have R:=B X _ ah P.out
  have H:=dh (i:=3) R (.slice (some ⟨E,0,none⟩) (f.length+1) p)
  have ai:∀b,(Value.slice a f.length c).ownBlock=some b->b<w.heap.size:=fun b e=>by
   obtain⟨N,D⟩:=cZ HH.out.row e;exact cA D
  have s:∀(b:Nat) (o:Obj),y.heap[b]?=some o->w.heap.size<=b->(F.setCell ⟨X,3,none⟩ (.slice (some ⟨E,0,none⟩) (f.length+1) p)).heap[b]?=some o:=fun b o I au=>(cz F ⟨X,3,none⟩ _ b (by show b≠X;omega)).trans (B b o I (fun e=>by have:=ai b e;omega))
  have aj:x.heap.size=w.heap.size+1:=by rw[<-ae.out];simp
  have ak:x.heap[w.heap.size]?=some (BE (uL d) (.slice none 0 0) 0 false false):=by rw[<-ae.out];exact du w _
  have al:=(q.out.2.block w.heap.size (by omega)).trans ak
  have L:y.heap[x.heap.size]?=some (.chan i #[] false 0 0 false):=by
   rw[q.out.1,cC _ _ _ (by simp)];exact du x.drew _
  have am:y.heap[x.heap.size+1]?=some (uT w.heap.size x.heap.size (.slice none 0 0) (.pointer none) (.slice none 0 0)):=by
   rw[q.out.1];exact fD (by simp)
  have an:eH (X::(Value.slice a f.length c).ownBlock.toList) w (y.alloc (.cells #[.pointer (some ⟨x.heap.size+1,0,none⟩)] 116)):=eH.dP ((O.out.trans (q.out.2.mono O.out.size)).alloc (cP O.out.size q.out.2.size) _)
  have ao:eH (X::(Value.slice a f.length c).ownBlock.toList) w (F.setCell ⟨X,3,none⟩ (.slice (some ⟨E,0,none⟩) (f.length+1) p)):=(an.grown HG.out.2.1 (fun b e=> .inl (by simp[e]))).set (.inl (by simp)) _
  have av:=q.out.2.size
  have C:(F.setCell ⟨X,3,none⟩ (.slice (some ⟨E,0,none⟩) (f.length+1) p)).ownsRow 0 116 1 (.slice (some ⟨E,0,none⟩) (f.length+1) p) (f.length+1) (f.map (fun v=>dC v.k.C)++[.pointer (some ⟨x.heap.size+1,0,none⟩)]):=dR HG.out.1 (fun gg hg=>by
   cases hg;refine cz F ⟨X,3,none⟩ _ E (fun e=>?_);obtain⟨N,D⟩:=cZ HG.out.1 rfl;rw[show E=X from e,R]at D;unfold CQ at D;cases D)
  have M:=HH.out.opened hn HD.out ao H C (by
   rcases HG.out.2.2.1 with e|e
   .exact .inl e
   .rw[cF]at e;exact .inr (by omega)) (by omega) (PC _) (by omega) (s _ _ al (PC _)) (s _ _ L (by omega)) (s _ _ am (by omega))
  have HF:=cb M
  have f3:=(PG (c:= .slice (some ⟨E,0,none⟩) (f.length+1) p) H).2.2.2.1
  have aw:=cA H
  clear M H aq ar
  generalize F.setCell ⟨X,3,none⟩ (.slice (some ⟨E,0,none⟩) (f.length+1) p)=wf at*
  clear C ao an am L al ak aj s ai R B ah
  go_wp2
  go_ret2
  exact⟨by simp,_,_,HF.out⟩
end Go.Proofs.YtlonjggfnleolaaGreatDoor
