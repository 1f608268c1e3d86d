import Derived.Test.YtlonjggfnleolaaGreatDoorRnGa
namespace Go.Proofs.YtlonjggfnleolaaGreatDoor
open Go.RowKit Go.Shelf Go.Proofs.Tryz
set_option linter.unusedVariables false
set_option maxHeartbeats 4000000
set_option maxRecDepth 100000
def xO (w w':World)(X f pt b:Nat)(n t:Value)(a:List eE)(cs:List dE)(m:List Nat)(i K T E:Nat)(d:Int)(r:dE×List dS):Prop:=
 xH b T E r.1 r.2/\r.1.d=d/\∃c,c.K=K/\eN w' X f pt b n t (a.set i c) (cs.set i r.1) m r.2/\eH (fZ X n a m) w w'/\dB w (fZ X n a m) (fZ X n (a.set i c) m)
section
variable {w wr w':World}{X f pt b:Nat}{n t:Value}{a:List eE}{cs:List dE}{m:List Nat}{i K Y T E:Nat}{d:Int}{v:eE}{s:dE}{l:List dS}{r:dE×List dS}
theorem kV.done (h:kV w wr X f pt b n t a cs m i K Y T E d v s l r)(g:hU s=s)(j:¬s.qs.length<b\/fw s.d s.st.held=none)(hb:Below wr.heap.size wr w'):xO w w' X f pt b n t a cs m i K T E d r:=by
 have e:r=(s,l):=by
  rw[<-h.MF,g];exact zc j
 have c:=h.below hb;subst e;exact⟨c.bd,c.d_,v,h.K_,c.iw,c.mQ,c.sF⟩
theorem eN.Oo (h:eN w X f pt b n t a cs m l):(wo cs).length<=96:=by
 have j:=BB cs 24 (fun s c=>by
  obtain⟨i,o,e⟩:=dG.1 c;have k:cs[i]?=some s:=by grind
  obtain⟨v,p,d⟩:=h.Ns k;have j:=yL s.qs 4 (fun x g=>by
   have:=(d.ok x g).len;have:=(d.ok x g).w.cm.k4;omega)
  have q:=h.wl s c;have r:=h.w6;omega)
 have u:=h.c4;have y:=h.cl;omega
theorem kV.NX (h:kV w wr X f pt b n t a cs m i K Y T E d v s l r)(j:i<a.length):(lJ cs i++jX s.qs).length<=96:=by
 have c:=h.iw.cl;rw[dj,dj]at c;have g:=h.iw.Oo;have e:=Ks (cs:=cs.set i s) (i:=i) (s:=s) (by simp_all);rw[CD]at e;rw[<-e.length_eq];exact g
end
theorem KI {w:World}{X f pt b:Nat}{n t:Value}{a:List eE}{cs:List dE}{m:List Nat}{i K Y T E:Nat}{d:Int}{v0:eE}{s0:dE}{aU:List dS}{r:dE×List dS}(h0:kV w w X f pt b n t a cs m i K Y T E d v0 s0 aU r)(hi:i<a.length)(hT:T+5000<=100000000000)(hd:d=1\/d=2\/d=3):Calls prog 151 #[.pointer (some ⟨X,0,none⟩),.pointer (some ⟨K,0,none⟩)] w fun e w'=>e= .returned (.tuple #[])/\xO w w' X f pt b n t a cs m i K T E d r:=by
 have H0:=cb h0;have bV:=h0.iw.w6;have aw:cs.length=a.length:=by have:=h0.iw.cl;rw[dj,dj]at this;exact this.symm
 clear h0;obtain⟨i1,aV,aW,aX,aY⟩:=LU;have HI:=cb (cd aV (cd aW (cd aX aY)));obtain⟨i2,aZ,a0,a6,a7⟩:=LV;have ax:=cb (cd aZ (cd a0 (cd a6 a7)));have bx:=cb aw;clear aV aW aX aY aZ a0 a6 a7 aw;go_wp2;go_loopw [4,5,6,7,8] (fun _ _ _ _ _ wr=>∃(v:eE) (s:dE) (l:List dS),Hid (kV w wr X f pt b n t a cs m i K Y T E d v s l r)) (fun _ _ _ _ _ wr=>xb wr K Y)
 case atStart=>exact⟨v0,s0,aU,H0⟩
 case round=>
  obtain⟨v,s,l,HJ⟩:=hrel;have aa:=HJ.out.jV hi;have aI:=aa.Mf;rw[HJ.out.K_,HJ.out.Y_]at aI;have bW:=HJ.out.bd.wl;have bX:=HJ.out.bd.told;by_cases O:∃c Q,s.qs=c::Q/\c.n=0
  .obtain⟨c,Q,hw,S⟩:=O;have a8:=aa.ok c (by rw[hw];simp);have HT:=Ga aa (by rw[HJ.out.d_];exact hd) hw (by omega) (by omega);rw[HJ.out.K_]at HT;have ay:=cb HT;have az:Hid (∀(w1:World) (e:Ending),Jk wr w1 v s c Q e->e= .returned (.bool true)/\∃V,kV w w1 X f pt b n t a cs m i K Y T E d V ⟨s.d,s.st,Q,s.told++(kS s.d c).data.toList⟩ l r/\xb w1 K Y<xb wr K Y):=fun w1 e hr=>by
    rcases hr with⟨W,_⟩|⟨_,rfl,V,a1,a2,a3,a4,a5⟩
    .exact absurd S W
    .have hS:=HJ.out.Qe hi a1 a2 a3 a4 a5 (by rw[DE hw S];exact HJ.out.MF) (HJ.out.bd.OH (by rw[HJ.out.d_];exact hd) hw a8) HJ.out.d_;refine⟨rfl,V,hS,?_⟩;have B:=(hS.jV hi).Mf;rw[hS.K_,hS.Y_]at B;rw[B,aI,hw];show 2*s.st.held.length+Q.length<_;simp only[dc]
     omega
   clear HT aa a8 hw S;go_wp2_with fail
   go_at_call 166;refine ay.out.mono ?_;intro e w1 hr;obtain⟨rfl,a9⟩:=az.out w1 e hr;have HR:=cb a9;clear hr a9;go_wp2;go_roundw;case rel=>exact HR.out.elim fun V h=>⟨V,_,_,h.1⟩
   case measure=>exact HR.out.elim fun V h=>h.2
  .have hst:hU s=s:=by
    cases hw:s.qs with
    |nil=>exact Fu hw
    |cons c Q=>exact DF hw (fun S=>O ⟨c,Q,hw,S⟩)
   have HT:Calls prog 166 #[.pointer (some ⟨v.K,0,none⟩)] wr fun e w'=>e= .returned (.bool false)/\Below wr.heap.size wr w':=by
    cases hw:s.qs with
    |nil=>exact Ds aa hw
    |cons c Q=>
     refine(Ga aa (by rw[HJ.out.d_];exact hd) hw (by omega) (by omega)).mono ?_;rintro e w' (⟨W,B,h3⟩|⟨W,_⟩)
     .exact⟨B,h3⟩
     .exact absurd ⟨c,Q,hw,W⟩ O
   rw[HJ.out.K_]at HT;have ay:=cb HT;have aJ:=cb hst;clear HT aa O hst;go_wp2_with fail
   go_at_call 166;refine ay.out.mono ?_;rintro e w1 ⟨rfl,ba⟩;have R:=cb (HJ.out.below ba);clear ba ay;have N:=R.out.jV hi;have hK:=N.eC;rw[R.out.K_,R.out.Y_]at hK;unfold Df at hK;obtain⟨Z,wc,ah⟩:=N.row.len;rw[dp]at ah;rw[ah]at hK;have k1:=cn hK 1;have k2:=cn hK 2;simp at k1 k2;have aK:=cA hK;have hX:=R.out.iw.eC;unfold DW at hX;have x2:=cn hX 2;simp at x2;have bz:=cA hX;have bA:v.ws.length=s.qs.length:=N.len;have bb:v.ws.length<=1000:=by omega
   by_cases aL:s.qs.length<b
   .have bB:¬(b:Int)<=(v.ws.length:Int):=by omega
    have bC:Hid (xb w1 K Y=2*s.st.held.length+s.qs.length):=by have:=N.Mf;rw[R.out.K_,R.out.Y_]at this;exact this
    have ad:=ah;clear N hK hX ah;go_wp2_with fail
    go_quiet (fail)
    go_wp2_with fail
    have D:=cb (R.out.below (cV (ct _ _) nq));clear k1 k2 x2 aK bz R bC;generalize w1.drewN nq=w2 at*;have aD:=D.out.jV hi;have az:=cb (xd Y d s.st w2 hd (by have:=aD.rd;rw[D.out.Y_,D.out.d_]at this;exact this) (by omega));clear aD;go_at_call 149;refine az.out.mono ?_;rintro e z ⟨ai,aj⟩;unfold PX at ai;clear az;cases hr:fw d s.st.held with
    |none=>
     rw[hr]at ai;obtain⟨rfl,af⟩:=ai;have ab:fw s.d s.st.held=none:=by rw[D.out.d_];exact hr
     have HD:Hid (∀o,xO w (z.alloc o) X f pt b n t a cs m i K T E d r):=fun o=>(D.out.Kn hi aj af).done aJ.out (.inr ab) ((ct _ _).alloc (PC _) o)
     clear hr ab aj af;unfold jM;go_wp2;refine cE (v:= .tuple #[]) (by simp[results,results151,go_sem]) rfl ⟨rfl,HD.out _⟩
    |some x=>
     rw[hr]at ai;obtain⟨kv,rfl,aM,af⟩:=ai;have ab:fw s.d s.st.held=some x:=by rw[D.out.d_];exact hr
     obtain⟨h3,_⟩:=D.out.next hi aj af;have ak:=yP ab;have aA:=ak.cm.k4;have bc:=D.out.NX hi;have C:(lJ cs i++jX s.qs).length<=100:=by omega
     obtain⟨H,al⟩:∃H,lJ cs i++jX s.qs=H:=⟨_,rfl⟩
     have aE:∀j,∀u∈(fK f pt x.c.kind x.c.val H l (x.c.keys.take j)).1,u.je.length<=100000000000:=fun j u hu=>by
      have h5:=(wB f pt x.c.kind x.c.val ak.cm.v40 H l T (fun u0 bD=>by have:=D.out.bd.ji u0 bD;exact⟨this.1,by omega⟩) (x.c.keys.take j) (fun k S=>ak.cm.k8 k (fH S)) u hu).2;have h6:(x.c.keys.take j).length<=4:=by rw[fh];omega
      omega
     have bd:∀A∈x.c.keys,fp x.c.kind [A] x.c.val=true:=fun A S=>by
      rcases ak.ok.NG with⟨e,_⟩|⟨_,e,_⟩
      .exact JG e S
      .rw[e]at S;cases S
     have be:(wo (cs.set i {s with st:=fm s.st x})).Perm H:=by
      have B:=Ks (cs:=cs.set i {s with st:=fm s.st x}) (i:=i) (s:={s with st:=fm s.st x}) (by rw[cK (by rw[bx.out];exact hi)]);rw[CD]at B;rw[<-al];exact B
     rw[al]at bc C;have aN:Hid (∀(y:World) (j:Nat) (L:Value) (F:List Nat) (A:ByteArray),oD z y f pt m H l x.c kv w2.heap.size z.heap.size (z.heap.size+1) j L F->x.c.keys[j]?=some A->Calls prog 167 #[.pointer (some ⟨X,0,none⟩),iW x.c kv,.string A] y.drew fun e w'=>∃P p,e= .returned (.pointer (some ⟨P,0,none⟩))/\pA y w' X f pt b n t (a.set i v) (cs.set i {s with st:=fm s.st x}) m (fK f pt x.c.kind x.c.val H l (x.c.keys.take (j+1))).1 p P/\(fK f pt x.c.kind x.c.val H l (x.c.keys.take (j+1))).2=(fK f pt x.c.kind x.c.val H l (x.c.keys.take j)).2++[p]):=fun y j L F A hm S=>by
      have bE:=(cq.1 S).1;have am:=hm.iw h3 C aA;have bY:=am.Oo;refine(My (am.below (ct _ _).drew) (by omega) x.c kv A (bd A (cu S)) (aE j)).mono ?_;rintro e w' ⟨P,W,B⟩;have B:=B.wK;obtain⟨q1,q2,q3⟩:=ur f pt x.c.kind x.c.val H l C h3.nx (x.c.keys.take j) (by rw[fh];omega);have bZ:(x.c.keys.take j).length<=4:=by rw[fh];omega
      have ek:x.c.keys.take (j+1)=x.c.keys.take j++[A]:=by rw[eV,S];rfl
      have es:=IC (a:=f) (pt:=pt) (k:=x.c.kind) (e:=x.c.val) (b:=A) q1 (by omega) (show H.length<=1000 by omega) (by omega) q3;rw[BZ be (by omega)]at B;refine⟨P,(oX f pt x.c.kind x.c.val H (fK f pt x.c.kind x.c.val H l (x.c.keys.take j)).1 A).2,W,?_,?_⟩
      .rw[ek,qO,es];exact B
      .rw[ek,qO,es]
     have an:Hid (∀(y U Z:World) (j P g2 I:Nat) (L:Value) (F:List Nat) (A:ByteArray) (p:PS),oD z y f pt m H l x.c kv w2.heap.size z.heap.size (z.heap.size+1) j L F->x.c.keys[j]?=some A->pA y U X f pt b n t (a.set i v) (cs.set i {s with st:=fm s.st x}) m (fK f pt x.c.kind x.c.val H l (x.c.keys.take (j+1))).1 p P->(fK f pt x.c.kind x.c.val H l (x.c.keys.take (j+1))).2=(fK f pt x.c.kind x.c.val H l (x.c.keys.take j)).2++[p]->Z.ownsRow 0 249 1 (.slice (some ⟨g2,0,none⟩) (j+1) I) (j+1) (F.map dC++[.pointer (some ⟨P,0,none⟩)])->(U.alloc (.cells #[.pointer (some ⟨P,0,none⟩)] 249)).grownBy Z L.ownBlock->(L.ownBlock=some g2\/g2=(U.alloc (.cells #[.pointer (some ⟨P,0,none⟩)] 249)).heap.size)->∃aO,oD z (Z.setCell ⟨z.heap.size+1,6,none⟩ (.slice (some ⟨g2,0,none⟩) (j+1) I)) f pt m H l x.c kv w2.heap.size z.heap.size (z.heap.size+1) (j+1) (.slice (some ⟨g2,0,none⟩) (j+1) I) aO):=fun y U Z j P g2 I L F A p hm S hs hp W B aP=>by
      have bE:=(cq.1 S).1;exact hm.more S (hm.iw h3 C aA) hp (by rw[(qy f pt x.c.kind x.c.val H l (x.c.keys.take j)).2,fh];omega) hs W B aP
     have aF:Hid (∀(y U:World) (j P:Nat) (L:Value) (F:List Nat) (ao:List dS) (p:PS),oD z y f pt m H l x.c kv w2.heap.size z.heap.size (z.heap.size+1) j L F->pA y U X f pt b n t (a.set i v) (cs.set i {s with st:=fm s.st x}) m ao p P->U.heap[z.heap.size]?=some (zt x.c kv)/\U.heap[z.heap.size+1]?=some (Rb x.c kv L)/\gF U w2.heap.size kv x.c.keys/\U.ownsRow 0 249 1 L j (F.map dC)):=fun y U j P L F ao p hm hs=>hm.je (hm.iw h3 C aA) hs
     have bg:=cb (oD.start (k:=H) h3 aM);have ap:Hid (∀(y Z:World) (L:Value) (F:List Nat) (va:Option Addr) (vc:Nat),oD z y f pt m H l x.c kv w2.heap.size z.heap.size (z.heap.size+1) x.c.keys.length L F->gW Z 263 (.slice va (v.ws.length+1) vc) (v.ws.map (fun u=>dC u.B)++[.pointer (some ⟨z.heap.size+1,0,none⟩)])->eH v.wv.ownBlock.toList (y.alloc (.cells #[.pointer (some ⟨z.heap.size+1,0,none⟩)] 263)) Z->((Value.slice va (v.ws.length+1) vc).ownBlock=v.wv.ownBlock\/(Value.slice va (v.ws.length+1) vc).ownBlock=some (y.alloc (.cells #[.pointer (some ⟨z.heap.size+1,0,none⟩)] 263)).heap.size)->∃V,kV w (Z.setCell ⟨K,2,none⟩ (.slice va (v.ws.length+1) vc)) X f pt b n t a cs m i K Y T E d V (sU f pt (lJ cs i) s l x).1 (sU f pt (lJ cs i) s l x).2 r):=fun y Z L F va vc hm W B aP=>D.out.got hi aL aJ.out ab aj af (by rw[al];exact C) (by rw[al];exact hm) W B aP
     have bh:Hid (∀(y:World) (j:Nat) (L:Value) (F:List Nat),oD z y f pt m H l x.c kv w2.heap.size z.heap.size (z.heap.size+1) j L F->y.heap[K]?=some (.cells #[.int .i64 s.d,.pointer (some ⟨Y,0,none⟩),.slice Z v.ws.length wc,.string (PJ s.told)] 247 (0,0))/\gW y 263 (.slice Z v.ws.length wc) (v.ws.map (fun u=>dC u.B))):=fun y j L F hm=>by
      have am:=hm.iw h3 C aA;have aw:=am.cl;rw[dj,dj]at aw;have bi:=am.jV i v {s with st:=fm s.st x} (by rw[cK hi]) (by rw[cK (by omega)]);have hb:=bi.eC;have bj:=bi.row;rw[D.out.K_,D.out.Y_,ad]at hb;rw[ad]at bj;exact⟨hb,bj⟩
     have bk:Hid (∀(w':World) (V:eE) (ao:List dS),kV w w' X f pt b n t a cs m i K Y T E d V (sU f pt (lJ cs i) s l x).1 ao r->xb w' K Y<xb wr K Y):=fun w' V ao h=>by
      have B:=(h.jV hi).Mf;rw[h.K_,h.Y_]at B;rw[B,aI];show 2*(fm s.st x).held.length+(s.qs++[_]).length<_;have:=jc ab;rw[cI,fu];omega
     rw[ad]at ap;obtain⟨ka,kc,bF⟩:=aM.form;subst bF;clear hr ab h3 ak aE bd aM aj af be al bc C;unfold iW at aN⊢;unfold zt Rb at bg;go_wp2_with fail
     generalize (z.alloc (.cells #[.int .i64 x.c.kind,.slice ka x.c.keys.length kc,.string x.c.val,.string x.c.word,.bool x.c.fatal,.int .i64 x.c.id] 36)).alloc (.cells #[.int .i64 x.c.kind,.slice ka x.c.keys.length kc,.string x.c.val,.string x.c.word,.bool x.c.fatal,.int .i64 x.c.id,.slice none 0 0] 266)=w4 at*;generalize bl:x.c.keys.length=kn at*;have bm:=cb bl;clear bl;go_loopw [8] (fun q y=>∃(j:Nat) (L:Value) (F:List Nat),j<=kn/\q= .int .i64 (j:Int)/\Hid (oD z y f pt m H l x.c (.slice ka kn kc) w2.heap.size z.heap.size (z.heap.size+1) j L F)) (fun q _=>kn-(intOf q).toNat)
     case atStart=>exact⟨0,_,[],cG _,rfl,bg⟩
     case round=>
      obtain⟨j,L,F,hj,rfl,HM⟩:=hrel;obtain⟨pa,pc,bG⟩:=jr HM.out.row;subst bG;have M:=HM.out.mb;unfold zt at M;have ac:=HM.out.OP;unfold Rb at ac;have m0:=cn M 0;have m1:=cn M 1;have m2:=cn M 2;have m3:=cn M 3;have m4:=cn M 4;have m5:=cn M 5;have b6:=cn ac 6;simp at m0 m1 m2 m3 m4 m5 b6;have bf:=dN ac;by_cases bH:j<kn
      .have bn:(j:Int)<(kn:Int):=by omega
       obtain⟨A,ae⟩:∃A,x.c.keys[j]?=some A:=⟨_,cp (by rw[bm.out];exact bH)⟩
       obtain⟨kb,ko,bI,bJ⟩:=HM.out.ky.some (by rw[bm.out];omega);clear bJ;subst bI;obtain⟨ck,Zk,aq⟩:=HM.out.ky.cell ae;have b0:=cA aq;have nM:(Value.slice pa j pc).ownBlock≠some z.heap.size:=fun e=>by
        obtain⟨aB,hc⟩:=cZ HM.out.row e;rw[M]at hc;simp at hc
       have nB:(Value.slice pa j pc).ownBlock≠some (z.heap.size+1):=fun e=>by
        obtain⟨aB,hc⟩:=cZ HM.out.row e;rw[ac]at hc;simp at hc
       have nk:(Value.slice pa j pc).ownBlock≠some kb:=fun e=>by
        obtain⟨aB,hc⟩:=cZ HM.out.row e;rw[aq]at hc;simp at hc
       have aQ:=cb (cd nM (cd nB nk));have b1:¬kb=z.heap.size+1:=fun e=>by rw[e,ac]at aq;simp at aq
       have HX:=cb (aN.out wr j _ F A HM.out ae);have aG:=cb ae;have b2:IntKind.i64.wrap ((j:Int)+1)=(j:Int)+1:=eM _ (by omega) (by omega);clear M ac aq nM nB nk ae;go_wp2_with fail
       go_region_law (first
        |(go_simp;go_at_call 167;refine HX.out.mono ?_;rintro e U ⟨P,p,rfl,aR,bo⟩;obtain⟨y1,y2,y3,y4⟩:=aF.out wr U j P _ F _ p HM.out aR;unfold zt at y1;unfold Rb at y2;obtain⟨bp,b3,ar⟩:=y3.cell aG.out;have n0:=cn y1 0;have n1:=cn y1 1;have n2:=cn y1 2;have n3:=cn y1 3;have n4:=cn y1 4;have n5:=cn y1 5;have bK:=cn y2 6;simp at n0 n1 n2 n3 n4 n5 bK;have bL:=dN y2;have bT:=cA y1;have bU:=cA y2;have bq:=cA ar;have au:=cb (cd (cd aR bo) (cd y4 (cd y1 (cd y2 ar))));clear aR bo y1 y2 y3 y4 ar m0 m1 m2 m3 m4 m5 bf ck)
        |(refine step_append_lies _ (by rfl) _ _ _ (by rfl) 0 249 i1 (.pointer none) 1 8 underlying264 HI.out.1 HI.out.2.1 HI.out.2.2.1 HI.out.2.2.2 (by rfl) (by omega) (.slice pa j pc) j (F.map dC) (by rfl) (eA au.out.2.1 _) ⟨U.heap.size,0,none⟩ 1 1 [.pointer (some ⟨P,0,none⟩)] (by rfl) (by rfl) (World.news_of_block (cs:=#[.pointer (some ⟨P,0,none⟩)]) (du U _)) (fun u hu=>by simp at hu;subst hu;rfl) (by omega) (by unfold maxLen;omega) (by omega) (cG _) _ rfl ?_;intro g2 I w6 aH J br bt;have z1:=(J.block z.heap.size (by simp;omega) (fun e=>aQ.out.1 e.symm)).trans (dI au.out.2.2.1 _);have z2:=(J.block (z.heap.size+1) (by simp;omega) (fun e=>aQ.out.2.1 e.symm)).trans (dI au.out.2.2.2.1 _);have z3:=J.cell_far ⟨kb,ko+j,none⟩ (by simp;omega) (fun e=>aQ.out.2.2 e.symm);have bM:w6.cell? ⟨kb,ko+j,none⟩=some (.string A):=z3.trans ((cS (w:=U) (cC U _ _ bq)).trans bp);have q0:=cn z1 0;have q1:=cn z1 1;have q2:=cn z1 2;have q3:=cn z1 3;have q4:=cn z1 4;have q5:=cn z1 5;have bu:=cn z2 6;simp at q0 q1 q2 q3 q4 q5 bu;have bN:=dN z2;have HG:=cb (an.out wr U w6 j P g2 I _ F A p HM.out aG.out au.out.1.1 au.out.1.2 aH J br);clear aH J br bt z1 z2 z3 n0 n1 n2 n3 n4 n5 bL bp)
        |fail)
       all_goals
        clear q0 q1 q2 q3 q4 q5 bu bN bM
        generalize w6.setCell ⟨z.heap.size+1,6,none⟩ (.slice (some ⟨g2,0,none⟩) (j+1) I)=wf at*
        go_wp2
        go_roundw
        case rel=>exact HG.out.elim fun aO h=>⟨j+1,_,aO,by omega,by go_num,h⟩
        case measure=>simp[intOf];omega
      .have bO:j=kn:=by omega
       subst bO;have bn:¬(j:Int)<(j:Int):=by omega
       obtain⟨ag,av⟩:=bh.out wr j _ F HM.out;have k2:=cn ag 2;simp at k2;have kf:=dN ag;have aK:=cA ag;obtain⟨xs,aC⟩:∃xs,xs=v.ws.map (fun u=>dC u.B):=⟨_,rfl⟩
       have aS:v.ws.length=xs.length:=by rw[aC];simp
       have bP:Hid (∀(w9:World) (va:Option Addr) (vc:Nat),gW w9 263 (.slice va (xs.length+1) vc) (xs++[.pointer (some ⟨z.heap.size+1,0,none⟩)])->eH (Value.slice Z xs.length wc).ownBlock.toList (wr.alloc (.cells #[.pointer (some ⟨z.heap.size+1,0,none⟩)] 263)) w9->((Value.slice va (xs.length+1) vc).ownBlock=(Value.slice Z xs.length wc).ownBlock\/(Value.slice va (xs.length+1) vc).ownBlock=some (wr.alloc (.cells #[.pointer (some ⟨z.heap.size+1,0,none⟩)] 263)).heap.size)->∃V,kV w (w9.setCell ⟨K,2,none⟩ (.slice va (xs.length+1) vc)) X f pt b n t a cs m i K Y T E d V (sU f pt (lJ cs i) s l x).1 (sU f pt (lJ cs i) s l x).2 r):=fun w9 va vc W B h3=>by
        rw[<-aS]at W B h3⊢;rw[aC]at W;exact ap.out wr w9 _ F va vc HM.out W B h3
       rw[<-aC,aS]at av;rw[aS]at k2 bb;have nK:(Value.slice Z xs.length wc).ownBlock≠some K:=fun e=>by
        obtain⟨aB,hc⟩:=av.eC e;rw[ag]at hc;simp at hc
       have bQ:Hid (gW (wr.alloc (.cells #[.pointer (some ⟨z.heap.size+1,0,none⟩)] 263)) 263 (.slice Z xs.length wc) xs):=av.other (fun g hg=>by obtain⟨aB,hc⟩:=av.eC hg;exact cC _ _ _ (cA hc));have bv:(wr.alloc (.cells #[.pointer (some ⟨z.heap.size+1,0,none⟩)] 263)).cell? ⟨wr.heap.size,0,none⟩=some (.pointer (some ⟨z.heap.size+1,0,none⟩)):=cn (du wr _) 0;have bR:=cb bv;have bw:=cb (cd ag nK);clear M ac av ag nK bv aC bA bB aL ad ap bh aN an aF;go_wp2_with (first
        |(at_builtin;refine vL _ rfl _ _ _ rfl 263 i2 (.pointer none) underlying245 ax.out.1 ax.out.2.1 rfl ax.out.2.2.1 ax.out.2.2.2 (.slice Z xs.length wc) xs rfl bQ.out ⟨wr.heap.size,0,none⟩ 1 (.pointer (some ⟨z.heap.size+1,0,none⟩)) rfl bR.out rfl (by omega) ?_;intro va vc w9 W B h3;have aT:=(B.block K (by simp;omega) (fun hm=>bw.out.2 (ia hm))).trans ((cC wr _ _ aK).trans bw.out.1);have bS:=cn aT 2;have b4:=dN aT;simp at bS;have HF:=cb (bP.out w9 va vc W B h3);clear W B h3 aT k2 kf)
        |fail)
       go_roundw;case rel=>exact HF.out.elim fun V h=>⟨V,_,_,h⟩
       case measure=>exact HF.out.elim fun V h=>bk.out _ V _ h
   .have HD:=cb (fun q=>R.out.done aJ.out (.inl aL) (cV (ct _ _) q));clear N hK hX ah;go_wp2_with fail
    go_quiet (fail)
    go_wp2;refine cE (v:= .tuple #[]) (by simp[results,results151,go_sem]) rfl ⟨rfl,HD.out nq⟩
end Go.Proofs.YtlonjggfnleolaaGreatDoor
