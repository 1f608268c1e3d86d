import Derived.Test.YtlonjggfnleolaaGreatDoorRnH
set_option linter.unusedVariables false
set_option maxHeartbeats 4000000
set_option maxRecDepth 100000
namespace Go.Proofs.YtlonjggfnleolaaGreatDoor
open Go.RowKit Go.Shelf Go.Conc Go.Proofs.Tryz
variable {W c:World}{f i:Nat}{v:fB}{s:dE}
def zi (s:dE)(a:List UInt8):dE:={s with st:=jL s.st a}
theorem gL.RQ (h:gL W f v s)(a:St)(d:mP W c v.k.R v.k.hb v.k.t a):∃v':fB,v'.k.C=v.k.C/\v'.qi=v.qi/\gL c f v' {s with st:=a}/\eH v.cM W c/\dB W v.cM v'.cM:=by
 obtain⟨b,e,g,i⟩:=h.uz.RQ a d;obtain⟨j,k,l⟩:=h.JI g e rfl i;exact⟨⟨{v.k with hb:=b},v.qi⟩,rfl,rfl,j,k,l⟩
theorem gM.looked {v:gU}{s:xJ}(h:gM W f v s)(k:eH v.bv.ownBlock.toList W c)(hb:ix c v.bv s.told):gM c f v s/\eH v.cM W c:=by
 obtain⟨u,w,x,y,l⟩:=h.nC;obtain⟨z,A,B,m⟩:=h.Ok;have n:eH v.cM W c:=k.more (fun b hb=>by simp[gU.cM,lj hb]);have d:∀b∈v.cM,v.bv.ownBlock≠some b->c.heap[b]?=W.heap[b]?:=fun b hb o=>k.block b (h.old b hb) (fun p=>o (lj p))
 obtain⟨i,a,b,q,r,t⟩:=h.chan;exact⟨⟨(d _ (by simp[gU.cM]) l).trans h.eC,h.rd.other (d _ (by simp[gU.cM]) (fun e=>(h.nB e).2.1 rfl)) (fun b hb=>d b (by simp[gU.cM,hb]) (fun e=>(h.nB e).2.2.1 hb)),h.di,⟨i,a,b,q,(d _ (by simp[gU.cM]) m).trans r,t⟩,dR h.row (fun g j=>d g (by simp[gU.cM,j]) (h.nW j).2.2.2),h.ql,h.Bj,hb,h.ab⟩,n⟩
theorem kD.looked {v:fe}{s:dS}(h:kD W v s)(k:eH v.bv.ownBlock.toList W c)(hb:ix c v.bv s.je):kD c v s/\eH v.cM W c:=by
 have d:eH v.cM W c:=k.more (fun b hb=>by simp[fe.cM,lj hb]);obtain⟨m,n,f,o,g⟩:=h.nS;have a:∀b∈v.cM,v.bv.ownBlock≠some b->c.heap[b]?=W.heap[b]?:=fun b hb i=>k.block b (h.old b hb) (fun j=>i (lj j))
 refine⟨⟨h.DV.keep (fun b hb=>?_),h.mp.other (a _ (by simp[fe.cM]) g),h.Bj,hb,h.nx,h.ab⟩,d⟩;rcases hb with e|e
 .rw[e];exact a _ (by simp[fe.cM]) f
 .exact a b (by simp[fe.cM,e]) (fun l=>h.ab b l e)
def oF (l pt f i:Nat)(a:List UInt8)(b:List dE×List dS):List dE×List dS:=match b.1[i]?with
 |none=>b
 |some s=>mC l pt f i (b.1.set i (zi s a),b.2)
section
variable {w:World}{X l pt f g p:Nat}{o:Value}{d:List fB}{cs:List dE}{n:List fe}{m:List dS}
theorem MB (h:fs w X l pt f g p o d cs n m)(k:Int)(b:ByteArray)(i:k<0\/(d.length:Int)<=k):Calls prog 28 #[.pointer (some ⟨X,0,none⟩),.int .i64 k,.string b] w fun e w'=>e= .returned (.int .i64 1)/\w'=w:=by
 obtain⟨a,c,rfl⟩:=h.Ct;have r:=(PG h.eC).2.2.2.1;have s:=h.c4;have j:=cb (Cl 56 (.inl rfl) a d.length c k w (by omega) i);go_enter func28,ntmps28;go_wp2_with fail
 refine j.out.mono ?_;rintro e t ⟨rfl,q⟩;go_wp2;go_ret;exact⟨rfl,rfl⟩
theorem KK (h:fs w X l pt f g p o d cs n m)(A:d[i]?=some v)(B:cs[i]?=some s)(a:ByteArray){T:Nat}(P:T+5000<=100000000000)(hb:qD f T (cs.set i (zi s a.data.toList)) m)(Q:2*s.st.held.length+a.size<=140737488355328):Calls prog 28 #[.pointer (some ⟨X,0,none⟩),.int .i64 (i:Int),.string a] w fun e w'=>e= .returned (.int .i64 0)/\∃j k,fs w' X l pt f g p o j (oF l pt f i a.data.toList (cs,m)).1 k (oF l pt f i a.data.toList (cs,m)).2/\j.length=d.length/\qD f T (oF l pt f i a.data.toList (cs,m)).1 (oF l pt f i a.data.toList (cs,m)).2/\eH (eL X o d n) w w'/\dB w (eL X o d n) (eL X o j k):=by
 obtain⟨t,c,rfl,C,D⟩:=h.Nl A;have K:=(cq.1 A).1;have q:=h.run A B;have c3:=(PG h.eC).2.2.2.1;have hn:=h.c4;have d0:=(PF q.jV.uz.eC).1;have R:=cb (vS 56 (.inl rfl) t d.length c i v.k.C w (by omega) K D C);have E:=cb (DD v.k.R v.k.t v.k.hb s.st a w q.jV.uz.rd Q);have u:Hid (∀w',mP w w' v.k.R v.k.hb v.k.t (jL s.st a.data.toList)->Calls prog 59 #[.pointer (some ⟨X,0,none⟩),.pointer (some ⟨v.k.C,0,none⟩)] w' fun e x=>e= .returned (.tuple #[])/\∃j k,fs x X l pt f g p (.slice (some ⟨t,0,none⟩) d.length c) j (oF l pt f i a.data.toList (cs,m)).1 k (oF l pt f i a.data.toList (cs,m)).2/\j.length=d.length/\qD f T (oF l pt f i a.data.toList (cs,m)).1 (oF l pt f i a.data.toList (cs,m)).2/\eH (eL X (.slice (some ⟨t,0,none⟩) d.length c) d n) w x/\dB w (eL X (.slice (some ⟨t,0,none⟩) d.length c) d n) (eL X (.slice (some ⟨t,0,none⟩) d.length c) j k)):=fun w' F=>by
  obtain⟨v1,H,S,U,L,M⟩:=q.jV.RQ _ F;have r:=q.Qe L M U (by rw[H,S]);obtain⟨V,N,O⟩:=h.uh A r H (L.more (fun b hb=>cr.2 (.inl hb))) ((dB.refl _ _).app (PC _) M (dB.refl _ _)) (h.wl s (cu B));have y:=uD V (cK K) P hb;rw[H]at y;refine y.mono ?_;rintro e x ⟨rfl,v',k,b1,W,Y,Z,b5⟩;have es:oF l pt f i a.data.toList (cs,m)=mC l pt f i (cs.set i (zi s a.data.toList),m):=by unfold oF;simp only[B]
  rw[es];exact⟨rfl,_,k,W,by simp,Y,N.trans Z O,O.trans b5 N.size⟩
 go_enter func28,ntmps28;go_wp2_with fail
 refine R.out.mono ?_;rintro e w1 ⟨rfl,aa⟩;go_wp2_with fail
 refine E.out.mono ?_;rintro e x ⟨rfl,I⟩;have J:=cb (u.out x I);go_wp2_with fail
 refine J.out.mono ?_;rintro e w3 ⟨rfl,z⟩;have HF:=cb z;go_wp2;go_ret;exact⟨rfl,HF.out⟩
theorem RP (h:fs w X l pt f g p o d cs n m)(k:Int)(b:k<0\/(d.length:Int)<=k):Calls prog 26 #[.pointer (some ⟨X,0,none⟩),.int .i64 k] w fun e w'=>e= .returned (.tuple #[.string ⟨#[]⟩,.int .i64 1])/\w'=w:=by
 obtain⟨a,c,rfl⟩:=h.Ct;have q:=(PG h.eC).2.2.2.1;have r:=h.c4;have i:=cb (Cl 56 (.inl rfl) a d.length c k w (by omega) b);go_enter func26,ntmps26;go_wp2_with fail
 refine i.out.mono ?_;rintro e s ⟨rfl,j⟩;go_wp2;go_ret2;exact⟨rfl,rfl⟩
theorem Ry (h:fs w X l pt f g p o d cs n m)(j:d[i]?=some v)(r:cs[i]?=some s):Calls prog 26 #[.pointer (some ⟨X,0,none⟩),.int .i64 (i:Int)] w fun e w'=>e= .returned (.tuple #[.string (PJ s.told),.int .i64 0])/\fs w' X l pt f g p o d cs n m/\eH (eL X o d n) w w':=by
 obtain⟨t,c,rfl,u,x⟩:=h.Nl j;have C:=(cq.1 j).1;have a:=h.run j r;have A:=(PG h.eC).2.2.2.1;have N:=h.c4;have D:=cb (vS 56 (.inl rfl) t d.length c i v.k.C w (by omega) C x u);have E:=cb (xR v.k.C 3 v.k.bv s.told w (PF a.jV.uz.eC).2.2.2.2.1 a.jV.uz.DU);have k:Hid (∀w',ix w' v.k.bv s.told->eH v.k.bv.ownBlock.toList w w'->fs w' X l pt f g p (.slice (some ⟨t,0,none⟩) d.length c) d cs n m/\eH (eL X (.slice (some ⟨t,0,none⟩) d.length c) d n) w w'):=fun w' q y=>by
  obtain⟨F,H⟩:=a.jV.uz.looked y q;obtain⟨I,B,A⟩:=a.jV.JI H F rfl (dB.refl _ _);obtain⟨z,J,O⟩:=h.uh j (a.Qe B A I rfl) rfl (B.more (fun b q=>cr.2 (.inl q))) (dB.refl _ _) (h.wl s (cu r));rw[ls r]at z;rw[show(⟨v.k,v.qi⟩:fB)=v from rfl,ls j]at z;exact⟨z,J⟩
 go_enter func26,ntmps26;go_wp2_with fail
 refine D.out.mono ?_;rintro e P ⟨rfl,K⟩;go_wp2_with fail
 refine E.out.mono ?_;rintro e L ⟨rfl,q,y⟩;have M:=cb (k.out L q y);go_wp2;go_ret2;exact⟨rfl,M.out⟩
theorem KL (h:fs w X l pt f g p o d cs n m)(k:Int)(a:k<0\/(l:Int)<=k):Calls prog 30 #[.pointer (some ⟨X,0,none⟩),.int .i64 k] w fun e w'=>e= .returned (.tuple #[.string ⟨#[]⟩,.int .i64 1])/\w'=w:=by
 have i:=(PG h.eC).2.2.2.2.1;have b:=cb (Cl 60 (.inr rfl) (some ⟨g,0,none⟩) l p k w (by have:=h.s4;omega) a);go_enter func30,ntmps30;go_wp2_with fail
 refine b.out.mono ?_;rintro e j ⟨rfl,c⟩;go_wp2;go_ret2;exact⟨rfl,rfl⟩
theorem IG (h:fs w X l pt f g p o d cs n m){v:fe}{s:dS}(q:n[i]?=some v)(E:m[i]?=some s):Calls prog 30 #[.pointer (some ⟨X,0,none⟩),.int .i64 (i:Int)] w fun e w'=>e= .returned (.tuple #[.string (PJ s.je),.int .i64 0])/\fs w' X l pt f g p o d cs n m/\eH (eL X o d n) w w':=by
 have J:i<l:=by rw[<-h.len];exact(cq.1 q).1
 have k:=h.ji.ok i v s q E;obtain⟨K,u,F⟩:=h.gb;have W:=(PG h.eC).2.2.2.2.1;obtain⟨Y,Z,ip,ic,x⟩:=k.eC;have L:=cb (vS 60 (.inr rfl) g l p i v.S w (by have:=h.s4;omega) J ((cn u i).trans (F i v q)) (cA u));have M:=cb (xR v.S 7 v.bv s.je w (cn x 8) k.row);have t:Hid (∀w',ix w' v.bv s.je->eH v.bv.ownBlock.toList w w'->fs w' X l pt f g p o d cs n m/\eH (eL X o d n) w w'):=fun w' c A=>by
  obtain⟨N,r⟩:=k.looked A c;have a:∀b∈v.cM,b∈jK n:=fun b c=>gJ.2 ⟨i,v,q,c⟩
  obtain⟨H,r2⟩:=h.ji.step q r N (dB.refl _ _);rw[ls q,ls E]at H;obtain⟨O,B,C⟩:=h.nX;refine⟨⟨r.keep h.eC (fun e=>B (a X e)),⟨K,r.keep u (fun e=>C (a g e)),F⟩,h.len,h.s1,h.s4,h.Re,h.yM,h.w6,dR h.row (fun I P=>?_),h.cl,h.c4,fun j z y D Q=>?_,h.cap,H,h.ap,h.mr,h.wl⟩,r.more (fun b c=>by exact cJ _ (cr.2 (.inr (cr.2 (.inr (a b c))))))⟩
  .obtain⟨R,b2,S⟩:=h.Kk P;exact r.block I R (fun e=>S (a I e))
  .exact(h.jV j z y D Q).keep (fun b c=>r.block b (qI h D b c) (fun e=>h.ap j z D b c (a b e)))
 go_enter func30,ntmps30;go_wp2_with fail
 refine L.out.mono ?_;rintro e w1 ⟨rfl,T⟩;go_wp2_with fail
 refine M.out.mono ?_;rintro e U ⟨rfl,c,A⟩;have V:=cb (t.out U c A);go_wp2;go_ret2;exact⟨rfl,V.out⟩
end
variable {X d pt a g s o:Nat}{n:Value}{f:List fB}{cs:List dE}{q:List fe}{p:List dS}{u:fe}
theorem fs.Oz {W w:World}{m:List fB}{x:List dE}{j:List fe}{r:List dS}(h:fs W X d pt a g s n f cs q p)(y:fs w X d pt a g s n m x j r)(k:eH (eL X n f q) W w)(z:q[o]?=some u):∃u',j[o]?=some u'/\u'.S=u.S:=by
 obtain⟨L,c,C⟩:=h.gb;obtain⟨D,b,l⟩:=y.gb;have E:g∉eL X n f q:=fun hm=>by
  rcases cQ.1 hm with e|hm
  .have:=h.eC;rw[<-e,c]at this;unfold CQ at this;simp at this
  rcases cr.1 hm with hm|hm
  .obtain⟨F,A⟩:=cZ h.row (ia hm);rw[c]at A;simp at A
  rcases cr.1 hm with hm|hm
  .obtain⟨i,v,H,I⟩:=oo.1 hm;exact(h.nX.1 i v H).2 I
  .exact h.nX.2.2 hm
 have J:=k.keep c E;rw[J]at b;simp at b;subst b;have B:o<j.length:=by rw[y.len,<-h.len];exact(cq.1 z).1
 refine⟨j[o],cp B,?_⟩;have K:=C o u z;have t:=l o _ (cp B);rw[K]at t;simp at t;exact t.symm
structure qZ (wr:World)(X sv pt win g sc:Nat)(cv:Value)(S o T n0:Nat)(M:List Nat)(w:World)(MF:(List dE×List dS)×Bool)(cis:List fB)(cs:List dE)(vs:List fe)(ss:List dS)(b:Bool):Prop where
 iw:fs wr X sv pt win g sc cv cis cs vs ss
 at_:∃u,vs[o]?=some u/\u.S=S
 len:cis.length=n0
 bd:qD win T cs ss
 mQ:eH M w wr
 sF:∀b∈eL X cv cis vs,b∈M\/w.heap.size+3<=b
 size:w.heap.size+3<=wr.heap.size
 b0:wr.heap[w.heap.size]?=some (.cells #[.pointer (some ⟨X,0,none⟩)] 53 (0,0))
 b1:wr.heap[w.heap.size+1]?=some (.cells #[.pointer (some ⟨S,0,none⟩)] 137 (0,0))
 b2:wr.heap[w.heap.size+1+1]?=some (.cells #[.bool b] 4 (0,0))
 tg:sD sv pt win o (cs,ss)=MF
section
variable {wr w' w:World}{X d pt a g s:Nat}{n:Value}{S o T t:Nat}{M:List Nat}{v y:(List dE×List dS)×Bool}{f m:List fB}{cs x:List dE}{q j:List fe}{p r:List dS}{b:Bool}
theorem qZ.Po (h:qZ wr X d pt a g s n S o T t M w v f cs q p b)(D:∀b∈M,b<w.heap.size)(k:eH (eL X n f q) wr w')(l:dB wr (eL X n f q) (eL X n m j))(E:fs w' X d pt a g s n m x j r)(F:∃u,j[o]?=some u/\u.S=S)(H:m.length=t)(hb:qD a T x r)(I:sD d pt a o (x,r)=y):qZ w' X d pt a g s n S o T t M w y m x j r b:=by
 have B:∀i,w.heap.size<=i->i<w.heap.size+3->i∉eL X n f q:=fun i J K C=>by
  rcases h.sF _ C with e|e
  .have:=D _ e;omega
  .omega
 refine⟨E,F,H,hb,⟨k.os.trans h.mQ.os,k.tape.trans h.mQ.tape,k.output.trans h.mQ.output,cP h.mQ.size k.size,fun c A z=>?_⟩,fun c A=>?_,cP h.size k.size,k.keep h.b0 (B _ (by omega) (by omega)),k.keep h.b1 (B _ (by omega) (by omega)),k.keep h.b2 (B _ (by omega) (by omega)),I⟩
 .refine(k.block c (cH A h.mQ.size) (fun C=>?_)).trans (h.mQ.block c A z);rcases h.sF _ C with e|e
  .exact z e
  .omega
 .rcases l c A with e|e
  .exact h.sF c e
  .have:=h.size;exact .inr (by omega)
theorem qZ.set (h:qZ wr X d pt a g s n S o T t M w v f cs q p b)(m:∀b∈M,b<w.heap.size)(i:Bool):qZ (wr.setCell ⟨w.heap.size+1+1,0,none⟩ (.bool i)) X d pt a g s n S o T t M w v f cs q p i:=by
 have k:eH [w.heap.size+1+1] wr (wr.setCell ⟨w.heap.size+1+1,0,none⟩ (.bool i)):=(eH.refl _ wr).set (.inl (by simp)) _;have x:w.heap.size+1+1∉eL X n f q:=fun r=>by
  rcases h.sF _ r with e|e
  .have:=m _ e;omega
  .omega
 obtain⟨y,u,_⟩:=h.iw.gb;have z:w.heap.size+1+1≠g:=fun e=>by
  have:=h.b2;rw[e,u]at this;simp at this
 refine⟨h.iw.mQ k (fun c j=>by grind),h.at_,h.len,h.bd,⟨k.os.trans h.mQ.os,k.tape.trans h.mQ.tape,k.output.trans h.mQ.output,cP h.mQ.size k.size,fun c j l=>?_⟩,h.sF,by rw[jU];exact h.size,k.keep h.b0 (by simp;omega),k.keep h.b1 (by simp),(dh (i:=0) h.b2 _).trans rfl,h.tg⟩;exact(k.block c (cH j h.mQ.size) (by simp;omega)).trans (h.mQ.block c j l)
theorem qZ.below (h:qZ wr X d pt a g s n S o T t M w v f cs q p b)(hb:Below wr.heap.size wr w'):qZ w' X d pt a g s n S o T t M w v f cs q p b:=
 ⟨h.iw.below hb,h.at_,h.len,h.bd,⟨hb.os.trans h.mQ.os,hb.tape.trans h.mQ.tape,hb.output.trans h.mQ.output,cP h.mQ.size hb.size,fun c i e=>(hb.block c (cH i h.mQ.size)).trans (h.mQ.block c i e)⟩,h.sF,cP h.size hb.size,(hb.block _ (cA h.b0)).trans h.b0,(hb.block _ (cA h.b1)).trans h.b1,(hb.block _ (cA h.b2)).trans h.b2,h.tg⟩
end
def xM (w w':World)(X d pt a g s:Nat)(n:Value)(T t:Nat)(M:List Nat)(b:List dE×List dS):Prop:=∃m j,fs w' X d pt a g s n m b.1 j b.2/\m.length=t/\qD a T b.1 b.2/\eH M w w'/\dB w M (eL X n m j)
theorem EO {w:World}(h:fs w X d pt a g s n f cs q p){su:dS}(hu:q[o]?=some u)(az:p[o]?=some su){T:Nat}(hT:T+5000<=100000000000)(hb:qD a T cs p):Calls prog 63 #[.pointer (some ⟨X,0,none⟩),.pointer (some ⟨u.S,0,none⟩)] w fun e w'=>e= .returned (.tuple #[])/\xM w w' X d pt a g s n T f.length (eL X n f q) (kr d pt a o (cs,p)):=by
 obtain⟨S,hS⟩:∃S,u.S=S:=⟨_,rfl⟩
 obtain⟨M,hM⟩:∃M,eL X n f q=M:=⟨_,rfl⟩
 obtain⟨t,ad⟩:∃t,f.length=t:=⟨_,rfl⟩
 rw[hM,ad];have HM:Hid (∀b∈M,b<w.heap.size):=fun b U=>h.old b (by rw[hM];exact U)
 have am:Hid (∀O1 O2 O3,Below w.heap.size w (((w.alloc O1).alloc O2).alloc O3)):=fun O1 O2 O3=>(cU.alloc (by simp) _).alloc (by simp;omega) _
 have H0:Hid (qZ (((w.alloc (.cells #[.pointer (some ⟨X,0,none⟩)] 53)).alloc (.cells #[.pointer (some ⟨S,0,none⟩)] 137)).alloc (.cells #[.bool true] 4)) X d pt a g s n S o T t M w (sD d pt a o (cs,p)) f cs q p true):=by
  have ae:=am.out (.cells #[.pointer (some ⟨X,0,none⟩)] 53) (.cells #[.pointer (some ⟨S,0,none⟩)] 137) (.cells #[.bool true] 4);refine⟨h.below ae,⟨u,hu,hS⟩,ad,hb,eH.dP ae,fun b U=> .inl (by rw[<-hM];exact U),by simp,?_,?_,?_,rfl⟩
  .exact dI (dI (du w _) _) _
  .have:=dI (du (w.alloc (.cells #[.pointer (some ⟨X,0,none⟩)] 53)) (.cells #[.pointer (some ⟨S,0,none⟩)] 137)) (.cells #[.bool true] 4);rw[cF]at this;exact this
  .have:=du ((w.alloc (.cells #[.pointer (some ⟨X,0,none⟩)] 53)).alloc (.cells #[.pointer (some ⟨S,0,none⟩)] 137)) (.cells #[.bool true] 4);rw[cF,cF]at this;exact this
 have af:Hid (∀(wr w':World) (x:List fB) (l:List dE) (B:List fe) (y:List dS) (A:dS) (b V:Bool),qZ wr X d pt a g s n S o T t M w (sD d pt a o (cs,p)) x l B y b->y[o]?=some A->lW l A o= .stop V->Below wr.heap.size wr w'->CallsD prog 93 #[.pointer (some ⟨w.heap.size+1+1,0,none⟩),.pointer (some ⟨w.heap.size,0,none⟩),.pointer (some ⟨w.heap.size+1,0,none⟩)] .returning (w'.setCell ⟨w.heap.size+1+1,0,none⟩ (.bool V)) fun e O w2=>O= .returning/\(e= .returned (.tuple #[])/\xM w w2 X d pt a g s n T t M (kr d pt a o (cs,p)))):=fun wr w' x l B y A b V hL H hh hb=>by
  have z:=(hL.below hb).set HM.out V;have ht:=z.tg;rw[AA (c:=(l,y)) H hh]at ht;have I:dB w M (eL X n x B):=fun c hc=>by
   rcases z.sF c hc with e|e
   .exact .inl e
   .exact .inr (by omega)
  cases V with
  |true=>
   have e:kr d pt a o (cs,p)=(l,y):=by unfold kr;rw[<-ht];rfl
   rw[e];refine(CY _ _ _ _ _ (cn z.b2 0)).mono ?_;rintro e O w2 ⟨rfl,rfl,rfl⟩;exact⟨rfl,rfl,x,B,z.iw,z.len,z.bd,z.mQ,I⟩
  |false=>
   have e:kr d pt a o (cs,p)=pd d pt a o (l,y):=by unfold kr;rw[<-ht];rfl
   rw[e];obtain⟨u1,F,J⟩:=z.at_;have hf:=CF z.iw F H hT z.bd;rw[J]at hf;refine EN _ _ _ X S _ _ _ (cn z.b2 0) (cn z.b0 0) (cn z.b1 0) (hf.mono ?_);rintro e w2 ⟨rfl,ag,an,W,a2,a3,a4,a5⟩;exact⟨rfl,ag,an,W,a2.trans z.len,a3,z.mQ.trans a4 I,I.trans a5 z.mQ.size⟩
 go_enter_defers func63,ntmps63
 go_wp2_with fail
 generalize ((w.alloc (.cells #[.pointer (some ⟨X,0,none⟩)] 53)).alloc (.cells #[.pointer (some ⟨S,0,none⟩)] 137)).alloc (.cells #[.bool true] 4)=w3 at*;go_loopw [5] (fun _ wr=>∃(x:List fB) (l:List dE) (B:List fe) (y:List dS) (b:Bool),Hid (qZ wr X d pt a g s n S o T t M w (sD d pt a o (cs,p)) x l B y b)) (fun _ wr=>sV wr S)
 case atStart=>exact⟨f,cs,q,p,true,H0⟩
 case round=>
  obtain⟨x,l,B,y,b,D⟩:=hrel;obtain⟨u1,F,J⟩:=D.out.at_;obtain⟨aA,A,P,H,ao⟩:=D.out.iw.ji.get (cq.1 F).1;rw[F]at P;cases P;have Q:=ao.DV.len;rw[J]at Q;have Y:=RD D.out.iw F H;rw[J]at Y;have y1:=cn D.out.b1 0;have l1:=cA D.out.b1;have y0:=cn D.out.b0 0;have l0:=cA D.out.b0;have y2:=cn D.out.b2 0;have l2:=cA D.out.b2;have f2:=dN D.out.b2 0;simp at y0 y1 y2;have E:=cb (cd F (cd J (cd H Q)));cases hh:lW l A o using HO.el with
  |stop V=>
   rw[hh]at Y;simp only at Y;have Z:=cb Y;have N:=cb hh;go_wp2_with fail
   refine Z.out.mono ?_;rintro e w4 ⟨rfl,aa⟩;have z2:=(aa.cell (p:=⟨w.heap.size+1+1,0,none⟩) l2).trans y2;have g2:=dN ((aa.block _ l2).trans D.out.b2) 0;have ap:=cb aa;go_wp2;refine leaves_cons (f:=93) (args:=#[.pointer (some ⟨w.heap.size+1+1,0,none⟩),.pointer (some ⟨w.heap.size,0,none⟩),.pointer (some ⟨w.heap.size+1,0,none⟩)]) (by simp) (by simp[go_sem]) ?_;refine(af.out wr w4 x l B y A b V D.out E.out.2.2.1 N.out ap.out).mono ?_;rintro e O w5 ⟨rfl,rfl,hq⟩;exact⟨_,pX rfl _ _ _,rfl,hq⟩
  |got i k m r=>
   rw[hh]at Y;simp only at Y;have Z:=cb Y;have N:=cb hh;go_wp2_with fail
   refine Z.out.mono ?_;rintro e w4 ⟨v,O,hv,h7,aB,ah,rfl,aq,ar,au⟩;have aC:=(cq.1 E.out.2.2.1).1;have K:=(cq.1 E.out.1).1;have ab:=D.out.Po (y:=sD d pt a o (zp l i k m r,y.set o {A with held:=A.held.drop r.used})) HM.out ar au aq ⟨O,cK K,ah⟩ D.out.len (D.out.bd.an i k m o r E.out.2.2.1 _) rfl;have L:=ab.set HM.out true;have av:=uD L.iw hv hT L.bd;have z2:=cn ab.b2 0;have g2:=dN ab.b2 0;have x0:=cn L.b0 0;have lx:=cA L.b0;simp at z2 x0;have ai:=cb av;have ac:=cb (cd L (cd hv (cK K (a:=O))))
   have aw:=cb (cd ah K);have aj:Hid (∀(w6:World) (v':fB) (j:List fe),fs w6 X d pt a g s n (x.set i v') (mC d pt a i (zp l i k m r,y.set o {A with held:=A.held.drop r.used})).1 j (mC d pt a i (zp l i k m r,y.set o {A with held:=A.held.drop r.used})).2->qD a T (mC d pt a i (zp l i k m r,y.set o {A with held:=A.held.drop r.used})).1 (mC d pt a i (zp l i k m r,y.set o {A with held:=A.held.drop r.used})).2->eH (eL X n x (B.set o O)) (w4.setCell ⟨w.heap.size+1+1,0,none⟩ (.bool true)) w6->dB (w4.setCell ⟨w.heap.size+1+1,0,none⟩ (.bool true)) (eL X n x (B.set o O)) (eL X n (x.set i v') j)->qZ w6 X d pt a g s n S o T t M w (sD d pt a o (cs,p)) (x.set i v') (mC d pt a i (zp l i k m r,y.set o {A with held:=A.held.drop r.used})).1 j (mC d pt a i (zp l i k m r,y.set o {A with held:=A.held.drop r.used})).2 true/\sV w6 S<sV wr S):=fun w6 v' j W a2 a3 a4=>by
    obtain⟨u6,ak,ax⟩:=ac.out.1.iw.Oz W a3 ac.out.2.2;have R:=ax.trans aw.out.1;have ay:sD d pt a o (mC d pt a i (zp l i k m r,y.set o {A with held:=A.held.drop r.used}))=sD d pt a o (cs,p):=by
     rw[<-D.out.tg];exact(CX (c:=(l,y)) E.out.2.2.1 N.out).symm
    refine⟨ac.out.1.Po HM.out a3 a4 W ⟨u6,ak,R⟩ (by rw[dj];exact D.out.len) a2 ay,?_⟩;obtain⟨s',b1,b2,_,b4⟩:=Qg (l:=d) (pt:=pt) (d:=a) (c:=(l,y)) E.out.2.2.1 N.out;have al:=(W.ji.ok o u6 s' ak b1).DV.len;rw[R]at al;rw[al,E.out.2.2.2];exact b4
   obtain⟨C,hC⟩:∃C,v.k.C=C:=⟨_,rfl⟩
   rw[hC]at ai⊢;go_wp2_with fail
   generalize w4.setCell ⟨w.heap.size+1+1,0,none⟩ (.bool true)=w5 at*;refine ai.out.mono ?_;rintro e w6 ⟨rfl,v',j,a0,W,a2,a3,a4⟩;have HF:=cb (aj.out w6 v' j W a2 a3 a4);go_wp2;go_roundw;case rel=>exact⟨_,_,_,_,_,HF.out.1⟩
   case measure=>exact HF.out.2
variable {o T:Nat}{u:fe}{i s':dS}
section
variable {w:World}{X f pt a g n:Nat}{m:Value}{c:List fB}{cs:List dE}{l:List fe}{d:List dS}
theorem fs.tD (h:fs w X f pt a g n m c cs l d)(q:o<f):∃u i,l[o]?=some u/\d[o]?=some i/\w.cell? ⟨g,o,none⟩=some (.pointer (some ⟨u.S,0,none⟩))/\w.cell? ⟨u.S,0,none⟩=some (.bool (!i.up))/\u.S<w.heap.size/\g<w.heap.size:=by
 obtain⟨u,i,j,b,e⟩:=h.ji.get (j:=o) (by rw[h.len];exact q);obtain⟨s,k,r⟩:=h.gb;obtain⟨t,v,x,y,p⟩:=e.eC;exact⟨u,i,j,b,(cn k o).trans (r o u j),(tT p).1,cA p,cA k⟩
theorem xf (h:fs w X f pt a g n m c cs l d)(k:Int)(b:k<0\/(f:Int)<=k):Calls prog 62 #[.pointer (some ⟨X,0,none⟩),.int .i64 k] w fun e w'=>e= .returned (.tuple #[.pointer none,.int .i64 1])/\w'=w:=by
 have o:=(PG h.eC).2.2.2.2.1;have i:=cb (Cl 60 (.inr rfl) (some ⟨g,0,none⟩) f n k w (by have:=h.s4;omega) b);go_enter func62,ntmps62;go_wp2_with fail
 refine i.out.mono ?_;rintro e p ⟨rfl,j⟩;go_wp2;go_ret2;exact⟨rfl,rfl⟩
theorem pZ (h:fs w X f pt a g n m c cs l d)(p:l[o]?=some u)(b:d[o]?=some i):Calls prog 62 #[.pointer (some ⟨X,0,none⟩),.int .i64 (o:Int)] w fun e w'=>e= .returned (if i.up=true then .tuple #[.pointer (some ⟨u.S,0,none⟩),.int .i64 0]else .tuple #[.pointer none,.int .i64 2])/\w'=w:=by
 have q:o<f:=by rw[<-h.len];exact(cq.1 p).1
 obtain⟨C,v,r,s,x,D,y,j⟩:=h.tD q;rw[p]at r;cases r;rw[b]at s;cases s;have E:=(PG h.eC).2.2.2.2.1;have z:=cA h.eC;have t:=cb (vS 60 (.inr rfl) g f n o u.S w (by have:=h.s4;omega) q x j);cases A:i.up with
 |true=>
  go_enter func62,ntmps62;go_wp2_with fail
  refine t.out.mono ?_;rintro e B ⟨rfl,k⟩;go_wp2;go_ret2;exact⟨rfl,rfl⟩
 |false=>
  go_enter func62,ntmps62;go_wp2_with fail
  refine t.out.mono ?_;rintro e B ⟨rfl,k⟩;go_wp2;go_ret2;exact⟨rfl,rfl⟩
theorem fs.KT {r:World}(h:fs w X f pt a g n m c cs l d){u':fe}(q:l[o]?=some u)(k:eH u.cM w r)(C:kD r u' s')(D:dB w u.cM u'.cM)(E:u'.S=u.S)(F:u'.l=u.l):fs r X f pt a g n m c cs (l.set o u') (d.set o s')/\eH (eL X m c l) w r/\dB w (eL X m c l) (eL X m c (l.set o u')):=by
 have H:=(cq.1 q).1;have p:∀b∈u.cM,b∈jK l:=fun b hb=>gJ.2 ⟨o,u,q,hb⟩
 obtain⟨I,s,t⟩:=h.nX;obtain⟨J,K,x⟩:=h.gb;obtain⟨L,A⟩:=h.ji.step q k C D;refine⟨⟨k.keep h.eC (fun e=>s (p X e)),⟨J,k.keep K (fun e=>t (p g e)),fun j z i=>?_⟩,by rw[dj];exact h.len,h.s1,h.s4,h.Re,h.yM,h.w6,dR h.row (fun B M=>?_),h.cl,h.c4,fun j z y i N=>?_,h.cap,L,fun j z i b hb v=>?_,fun O z i=>?_,h.wl⟩,k.more (fun b hb=>by exact cJ _ (cr.2 (.inr (cr.2 (.inr (p b hb)))))),fun b hb=>?_⟩
 .rw[dD]at i;split at i
  .rename_i e;subst e;simp at i;subst i;rw[E];exact x o u q
  .exact x j z i
 .obtain⟨P,R,Q⟩:=h.Kk M;exact k.block B P (fun e=>Q (p B e))
 .exact(h.jV j z y i N).keep (fun b hb=>k.block b (qI h i b hb) (fun e=>h.ap j z i b hb (p b e)))
 .rcases A b v with h3|h3
  .exact h.ap j z i b hb h3
  .have:=qI h i b hb;omega
 .rw[dD]at i;split at i
  .rename_i e;subst e;simp at i;subst i;rw[F];exact h.mr o u q
  .exact h.mr O z i
 .unfold eL at hb⊢;rcases cQ.1 hb with e|hb
  .exact .inl (by rw[e];simp)
  rcases cr.1 hb with hb|hb
  .exact .inl (cJ _ (cr.2 (.inl hb)))
  rcases cr.1 hb with hb|hb
  .exact .inl (cJ _ (cr.2 (.inr (cr.2 (.inl hb)))))
  .rcases A b hb with h3|h3
   .exact .inl (cJ _ (cr.2 (.inr (cr.2 (.inr h3)))))
   .exact .inr h3
theorem qD.se {a:Nat}{cs:List dE}{d:List dS}(h:qD a T cs d){s:dS}(b:d[o]?=some s)(c:s'.next=s.next)(f:s'.je=s.je):qD a T cs (d.set o s'):=
 ⟨h.told,h.wl,fun u g=>by
  rcases da g with e|e
  .exact h.ji u e
  .rw[e,c,f];exact h.ji s (cu b)⟩
def jO (f pt a o:Nat)(b:List UInt8)(c:List dE×List dS):List dE×List dS:=match c.2[o]?with
 |none=>c
 |some s=>kr f pt a o (c.1,c.2.set o {s with held:=s.held++b})
theorem Gk (h:fs w X f pt a g n m c cs l d)(k:Int)(b:ByteArray)(i:k<0\/(f:Int)<=k):Calls prog 32 #[.pointer (some ⟨X,0,none⟩),.int .i64 k,.string b] w fun e w'=>e= .returned (.int .i64 1)/\w'=w:=by
 have j:=cb (xf h k i);go_enter func32,ntmps32;go_wp2_with fail
 refine j.out.mono ?_;rintro e p ⟨rfl,o⟩;go_wp2;go_ret;exact⟨rfl,rfl⟩
theorem Ck (h:fs w X f pt a g n m c cs l d)(j:d[o]?=some i)(b:ByteArray)(p:i.up=false):Calls prog 32 #[.pointer (some ⟨X,0,none⟩),.int .i64 (o:Int),.string b] w fun e w'=>e= .returned (.int .i64 2)/\w'=w:=by
 obtain⟨u,q⟩:∃u,l[o]?=some u:=⟨_,cp (by rw[h.ji.len];exact(cq.1 j).1)⟩
 have k:=pZ h q j;rw[cD (by simp[p])]at k;have k:=cb k;go_enter func32,ntmps32;go_wp2_with fail
 refine k.out.mono ?_;rintro e s ⟨rfl,r⟩;go_wp2;go_ret;exact⟨rfl,rfl⟩
theorem Gl (h:fs w X f pt a g n m c cs l d)(r:d[o]?=some i)(p:ByteArray)(A:i.up=true)(Y:T+5000<=100000000000)(hb:qD a T cs d)(Z:2*i.held.length+p.size<=140737488355328):Calls prog 32 #[.pointer (some ⟨X,0,none⟩),.int .i64 (o:Int),.string p] w fun e w'=>e= .returned (.int .i64 0)/\xM w w' X f pt a g n m T c.length (eL X m c l) (jO f pt a o p.data.toList (cs,d)):=by
 obtain⟨u,B⟩:∃u,l[o]?=some u:=⟨_,cp (by rw[h.ji.len];exact(cq.1 r).1)⟩
 have C:=(cq.1 B).1;have x:=(cq.1 r).1;have q:=h.ji.ok o u i B r;have J:=pZ h B r;rw[cN A]at J;have J:=cb J;have K:=cb (IA u.S _ u.hb i.held p w q.DV Z);have L:Hid (∀z,Aa w z u.S u.hb ⟨!i.up,i.next,u.m,u.bp,u.bv⟩ ⟨i.held++p.data.toList,false,false⟩->Calls prog 63 #[.pointer (some ⟨X,0,none⟩),.pointer (some ⟨u.S,0,none⟩)] z fun e w'=>e= .returned (.tuple #[])/\xM w w' X f pt a g n m T c.length (eL X m c l) (jO f pt a o p.data.toList (cs,d))):=fun z t=>by
  obtain⟨⟨D,hR,hF⟩,s⟩:=t;obtain⟨n1,n2,n3,n4,n5⟩:=q.nS;have k:eH (u.S::u.hb.toList) w z:=⟨s.os,s.tape,s.output,s.size,fun b hb R=>s.block b hb (fun e=>R (by simp[e])) (fun e=>R (by simp[<-e]))⟩
  have kf:eH u.cM w z:=k.more (fun b hb=>by simp[fe.cM]at hb⊢;rcases hb with e|e<;>simp[e]);have E:kD z {u with hb:=D} {i with held:=i.held++p.data.toList}:=by
   refine⟨hR,q.mp.other (k.block _ (q.old _ (by simp[fe.cM])) (fun F=>?_)),q.Bj,q.row.other (fun b hb=>k.block b (q.old b (by simp[fe.cM,hb])) (fun F=>?_)),q.nx,fun b hb v=>?_⟩
   .simp at F;rcases F with e|e
    .exact n1 e.symm
    .exact n4 e
   .simp at F;rcases F with e|e
    .exact n3 (by rw[hb,e])
    .exact q.ab b hb e
   .rcases hF with e|e|⟨j,e,U⟩
    .exact q.ab b hb (by simp_all)
    .rw[e]at v;cases v
    .rw[e]at v;cases v;have:=q.old b (by simp[fe.cM,hb]);omega
  have M:dB w u.cM (fe.cM {u with hb:=D}):=fun b hb=>by
   unfold fe.cM at hb⊢;simp at hb⊢;rcases hb with e|e|e|e
   .simp[e]
   .simp[e]
   .rcases hF with e2|e2|⟨j,e2,U⟩
    .rw[e2]at e;simp[e]
    .rw[e2]at e;cases e
    .rw[e2]at e;cases e;exact .inr U
   .simp[e]
  obtain⟨r1,V,W⟩:=h.KT B kf E M rfl rfl;have N:=EO r1 (cK C) (cK x) Y (hb.se r rfl rfl);refine N.mono ?_;rintro e w' ⟨rfl,H,O,a1,a2,a3,a4,a5⟩;have e:jO f pt a o p.data.toList (cs,d)=kr f pt a o (cs,d.set o {i with held:=i.held++p.data.toList}):=by unfold jO;simp only[r]
  rw[e];exact⟨rfl,H,O,a1,a2,a3,V.trans a4 W,W.trans a5 V.size⟩
 obtain⟨iv,iu,ip,ic,I⟩:=q.eC;have aa:=cA I;generalize u.S=S at*;clear h B r A hb C x q I;go_enter func32,ntmps32;go_wp2_with fail
 go_at_call 62;refine J.out.mono ?_;rintro e z ⟨rfl,P⟩;subst P;go_wp2_with fail
 go_at_call 58;refine K.out.mono ?_;rintro e w2 ⟨rfl,t⟩;have Q:=cb (L.out w2 t);clear t;go_wp2_with fail
 go_at_call 63;refine Q.out.mono ?_;rintro e w3 ⟨rfl,y⟩;have HF:=cb y;clear y;go_wp2;go_ret;exact⟨rfl,HF.out⟩
theorem Lz (h:fs w X f pt a g n m c cs l d)(k:Int)(b:k<0\/(f:Int)<=k):Calls prog 33 #[.pointer (some ⟨X,0,none⟩),.int .i64 k] w fun e w'=>e= .returned (.int .i64 1)/\w'=w:=by
 have i:=cb (xf h k b);go_enter func33,ntmps33;go_wp2_with fail
 refine i.out.mono ?_;rintro e o ⟨rfl,j⟩;go_wp2;go_ret;exact⟨rfl,rfl⟩
theorem GK (h:fs w X f pt a g n m c cs l d)(b:d[o]?=some i)(k:i.up=false):Calls prog 33 #[.pointer (some ⟨X,0,none⟩),.int .i64 (o:Int)] w fun e w'=>e= .returned (.int .i64 2)/\w'=w:=by
 obtain⟨u,p⟩:∃u,l[o]?=some u:=⟨_,cp (by rw[h.ji.len];exact(cq.1 b).1)⟩
 have j:=pZ h p b;rw[cD (by simp[k])]at j;have j:=cb j;go_enter func33,ntmps33;go_wp2_with fail
 refine j.out.mono ?_;rintro e r ⟨rfl,q⟩;go_wp2;go_ret;exact⟨rfl,rfl⟩
theorem down_up (h:fs w X f pt a g n m c cs l d)(b:d[o]?=some i)(p:i.up=true)(s:T+5000<=100000000000)(hb:qD a T cs d):Calls prog 33 #[.pointer (some ⟨X,0,none⟩),.int .i64 (o:Int)] w fun e w'=>e= .returned (.int .i64 0)/\xM w w' X f pt a g n m T c.length (eL X m c l) (pd f pt a o (cs,d)):=by
 obtain⟨u,r⟩:∃u,l[o]?=some u:=⟨_,cp (by rw[h.ji.len];exact(cq.1 b).1)⟩
 have k:=pZ h r b;rw[cN p]at k;have k:=cb k;have t:=cb (CF h r b s hb);go_enter func33,ntmps33;go_wp2_with fail
 refine k.out.mono ?_;rintro e x ⟨rfl,v⟩;go_wp2_with fail
 refine t.out.mono ?_;rintro e y ⟨rfl,j⟩;have q:=cb j;go_wp2;go_ret;exact⟨rfl,q.out⟩
theorem OI (h:fs w X f pt a g n m c cs l d)(k:Int)(b:k<0\/(f:Int)<=k):Calls prog 34 #[.pointer (some ⟨X,0,none⟩),.int .i64 k] w fun e w'=>e= .returned (.int .i64 1)/\w'=w:=by
 have o:=(PG h.eC).2.2.2.2.1;have i:=cb (Cl 60 (.inr rfl) (some ⟨g,0,none⟩) f n k w (by have:=h.s4;omega) b);go_enter func34,ntmps34;go_wp2_with fail
 refine i.out.mono ?_;rintro e p ⟨rfl,j⟩;go_wp2;go_ret;exact⟨rfl,rfl⟩
def nA (o:Nat)(d:List dS):List dS:=match d[o]?with
 |none=>d
 |some s=>d.set o {s with up:=true}
theorem OJ (h:fs w X f pt a g n m c cs l d)(b:d[o]?=some i)(j:i.up=true):Calls prog 34 #[.pointer (some ⟨X,0,none⟩),.int .i64 (o:Int)] w fun e w'=>e= .returned (.int .i64 3)/\w'=w:=by
 obtain⟨u,p⟩:∃u,l[o]?=some u:=⟨_,cp (by rw[h.ji.len];exact(cq.1 b).1)⟩
 have q:o<f:=by rw[<-h.len];exact(cq.1 p).1
 obtain⟨B,t,r,s,v,x,y,k⟩:=h.tD q;rw[p]at r;cases r;rw[b]at s;cases s;rw[j]at x;have C:=(PG h.eC).2.2.2.2.1;have z:=cb (vS 60 (.inr rfl) g f n o u.S w (by have:=h.s4;omega) q v k);go_enter func34,ntmps34;go_wp2_with fail
 refine z.out.mono ?_;rintro e D ⟨rfl,A⟩;go_wp2;go_ret;exact⟨rfl,rfl⟩
theorem up_down (h:fs w X f pt a g n m c cs l d)(p:d[o]?=some i)(q:i.up=false)(hb:qD a T cs d):Calls prog 34 #[.pointer (some ⟨X,0,none⟩),.int .i64 (o:Int)] w fun e w'=>e= .returned (.int .i64 0)/\xM w w' X f pt a g n m T c.length (eL X m c l) (cs,nA o d):=by
 obtain⟨u,r⟩:∃u,l[o]?=some u:=⟨_,cp (by rw[h.ji.len];exact(cq.1 p).1)⟩
 have B:o<f:=by rw[<-h.len];exact(cq.1 r).1
 obtain⟨Q,J,C,D,K,L,M,x⟩:=h.tD B;rw[r]at C;cases C;rw[p]at D;cases D;rw[q]at L;have R:=(PG h.eC).2.2.2.2.1;have N:=cb (vS 60 (.inr rfl) g f n o u.S w (by have:=h.s4;omega) B K x);have j:=h.ji.ok o u i r p;obtain⟨⟨E,F,y,H,I⟩,s⟩:=j.DV;have U:=dN y 0;have t:Hid (xM w (w.setCell ⟨u.S,0,none⟩ (.bool false)) X f pt a g n m T c.length (eL X m c l) (cs,nA o d)):=by
  have k:eH [u.S] w (w.setCell ⟨u.S,0,none⟩ (.bool false)):=(eH.refl _ w).set (.inl (by simp)) _;obtain⟨V,W,Y,Z,n5⟩:=j.nS;have z:(w.setCell ⟨u.S,0,none⟩ (.bool false)).heap[u.S]?=some (MD ⟨false,i.next,u.m,u.bp,u.bv⟩ E F false false):=(dh (i:=0) y _).trans rfl;have v:kD (w.setCell ⟨u.S,0,none⟩ (.bool false)) u {i with up:=true}:=by
   refine⟨⟨⟨E,F,z,H.other (fun b hb=>k.block b (j.old b (by simp[fe.cM,hb])) (by simp_all)),I⟩,s⟩,j.mp.other (k.block _ j.mp.lt (by grind)),j.Bj,j.row.other (fun b hb=>k.block b (j.old b (by simp[fe.cM,hb])) (by simp_all)),j.nx,j.ab⟩
  obtain⟨r1,O,P⟩:=h.KT r (k.more (fun b hb=>by simp at hb;rw[hb];simp[fe.cM])) v (dB.refl _ _) rfl rfl;have e:nA o d=d.set o {i with up:=true}:=by unfold nA;rw[p]
  exact⟨c,_,by grind,rfl,by simp only[e];exact hb.se p rfl rfl,O,P⟩
 generalize u.S=S at*;clear h r p q j y H I s hb;go_enter func34,ntmps34;go_wp2_with fail
 go_at_call 60;refine N.out.mono ?_;rintro e w1 ⟨rfl,A⟩;subst A;go_wp2;go_ret;exact⟨rfl,t.out⟩
end
variable {o S i:Nat}{s:dS}
def qe (cs:List dE):Prop:=∀s∈cs,s.d=1\/s.d=2\/s.d=3
section
variable {w:World}{X p pt l:Nat}{n q:Value}{d:List eE}{cs:List dE}{f:List Nat}{m:List dS}
theorem eN.tD (h:eN w X p pt l n q d cs f m)(b:m[o]?=some s):∃S g c,f[o]?=some S/\q= .slice (some ⟨g,0,none⟩) f.length c/\g<w.heap.size/\w.cell? ⟨g,o,none⟩=some (.pointer (some ⟨S,0,none⟩))/\w.heap[S]?=some (tS s.up s.next (PJ s.held) s.je):=by
 have j:o<f.length:=by rw[h.len,<-h.sl];exact(cq.1 b).1
 have i:=cp j;obtain⟨g,c,e,a,k⟩:=pE h.ub (by simp) (i:=o) (x:=dC f[o]) (by grind);exact⟨f[o],g,c,i,e,a,k,h.ji o _ s i b⟩
theorem eN.se {i:World}{s':dS}(h:eN w X p pt l n q d cs f m)(r:f[o]?=some S)(v:m[o]?=some s)(k:eH [S] w i)(hb:i.heap[S]?=some (tS s'.up s'.next (PJ s'.held) s'.je))(x:s'.next<65536):eN i X p pt l n q d cs f (m.set o s')/\eH (fZ X n d f) w i:=by
 have g:∀b∈[S],b∈f:=fun b hb=>by grind
 have y:=(cq.1 v).1;refine⟨h.NR (k.more g) (fun j t z a c=>?_) (by simp) (fun u A=>?_),k.more (fun b hb=>eS.2 (.inr (.inr (.inr (g b hb)))))⟩
 .by_cases e:o=j
  .subst e;rw[cK y]at c;rw[r]at a;cases a;cases c;exact hb
  .rw[de e]at c;have h1:=h.ji j t z a c;refine(k.block t (cA h1) (fun g=>?_)).trans h1;simp at g;subst g;exact e ((PV (cq.1 r).1 h.NO).1 (r.trans a.symm))
 .rcases da A with h1|h1
  .exact h.nx u h1
  .rw[h1];exact x
theorem Iy (h:eN w X p pt l n q d cs f m)(k:Int)(g:k<0\/(d.length:Int)<=k):Calls prog 113 #[.pointer (some ⟨X,0,none⟩),.int .i64 k] w fun e w'=>e= .returned (.tuple #[.string ⟨#[]⟩,.int .i64 1])/\w'=w:=by
 obtain⟨a,c,rfl⟩:=jr h.rh;have b:=h.eC;have i:=cn b 3;by_cases j:k<0
 .go_wp2;go_ret2;exact⟨rfl,rfl⟩
 .go_wp2;go_ret2;exact⟨rfl,rfl⟩
theorem Ra (h:eN w X p pt l n q d cs f m){v:eE}{s:dE}(a:d[i]?=some v)(b:cs[i]?=some s):Calls prog 113 #[.pointer (some ⟨X,0,none⟩),.int .i64 (i:Int)] w fun e w'=>e= .returned (.tuple #[.string (PJ s.told),.int .i64 0])/\w'=w:=by
 have t:=(cq.1 a).1;obtain⟨g,c,rfl,j,k⟩:=pE h.rh (by simp) (i:=i) (x:=dC v.K) (by grind);unfold dC at k;have o:=h.eC;have u:=cn o 3;have r:=(h.jV i v s a b).eC;have x:=cn r 3;have y:¬(i:Int)<0:=by omega
 go_wp2;go_ret2;exact⟨rfl,rfl⟩
theorem Ix (h:eN w X p pt l n q d cs f m)(k:Int)(i:k<0\/(p:Int)<=k):Calls prog 114 #[.pointer (some ⟨X,0,none⟩),.int .i64 k] w fun e w'=>e= .returned (.tuple #[.string ⟨#[]⟩,.int .i64 1])/\w'=w:=by
 obtain⟨a,c,rfl⟩:=jr h.ub;have b:=h.eC;have g:=cn b 4;rw[h.len]at g;by_cases j:k<0
 .go_wp2;go_ret2;exact⟨rfl,rfl⟩
 .go_wp2;go_ret2;exact⟨rfl,rfl⟩
theorem QZ (h:eN w X p pt l n q d cs f m)(a:f[i]?=some S)(b:m[i]?=some s):Calls prog 114 #[.pointer (some ⟨X,0,none⟩),.int .i64 (i:Int)] w fun e w'=>e= .returned (.tuple #[.string (PJ s.je),.int .i64 0])/\w'=w:=by
 have u:=(cq.1 a).1;obtain⟨g,c,rfl,j,k⟩:=pE h.ub (by simp) (i:=i) (x:=dC S) (by grind);unfold dC at k;have o:=h.eC;have v:=cn o 4;have r:=h.ji i S s a b;have x:=cn r 3;have y:=h.s4;have t:=h.len;have z:¬(i:Int)<0:=by omega
 go_wp2;go_ret2;exact⟨rfl,rfl⟩
theorem Mz (h:eN w X p pt l n q d cs f m)(k:Int)(i:k<0\/(p:Int)<=k):Calls prog 118 #[.pointer (some ⟨X,0,none⟩),.int .i64 k] w fun e w'=>e= .returned (.int .i64 1)/\w'=w:=by
 obtain⟨a,c,rfl⟩:=jr h.ub;have b:=h.eC;have g:=cn b 4;rw[h.len]at g;by_cases j:k<0
 .go_wp2;go_ret;exact⟨rfl,rfl⟩
 .go_wp2;go_ret;exact⟨rfl,rfl⟩
theorem MA (h:eN w X p pt l n q d cs f m)(a:m[o]?=some s)(b:s.up=true):Calls prog 118 #[.pointer (some ⟨X,0,none⟩),.int .i64 (o:Int)] w fun e w'=>e= .returned (.int .i64 3)/\w'=w:=by
 obtain⟨S,g,c,i,rfl,j,u,k⟩:=h.tD a;have v:=(cq.1 i).1;have r:=h.eC;have x:=cn r 4;have y:=cn k 0;have z:=h.s4;have t:=h.len;have A:¬(o:Int)<0:=by omega
 have B:¬(f.length:Int)<=(o:Int):=by omega
 have C:(o:Int)<(f.length:Int):=by omega
 go_wp2;go_ret;exact⟨rfl,rfl⟩
theorem Iz (h:eN w X p pt l n q d cs f m)(a:m[o]?=some s)(r:s.up=false):Calls prog 118 #[.pointer (some ⟨X,0,none⟩),.int .i64 (o:Int)] w fun e w'=>e= .returned (.int .i64 0)/\eN w' X p pt l n q d cs f (nA o m)/\eH (fZ X n d f) w w':=by
 obtain⟨S,g,c,j,rfl,t,v,b⟩:=h.tD a;have x:=(cq.1 j).1;have k:=h.eC;have y:=cn k 4;have hF:eN (w.setCell ⟨S,0,none⟩ (.bool true)) X p pt l n (.slice (some ⟨g,0,none⟩) f.length c) d cs f (nA o m)/\eH (fZ X n d f) w (w.setCell ⟨S,0,none⟩ (.bool true)):=by
  have e:nA o m=m.set o {s with up:=true}:=by unfold nA;rw[a]
  rw[e];exact h.se j a ((eH.refl _ w).set (.inl (by simp)) _) ((dh (i:=0) b _).trans rfl) (h.nx s (cu a))
 have u:=cb hF;have z:=cn b 0;have A:=dN b;have B:=h.s4;have i:=h.len;have C:¬(o:Int)<0:=by omega
 have D:¬(f.length:Int)<=(o:Int):=by omega
 have E:(o:Int)<(f.length:Int):=by omega
 clear h k b i hF;go_wp2;go_ret;exact⟨rfl,u.out⟩
end
variable {X b j pt a g t T r H i o m B:Nat}{q s:Value}{c:List fB}{n:List fe}{W w w':World}{cs:List dE}{l:List dS}{Z:Array Value}{f:Nat×Nat}{d:List dE×List dS}{e:List UInt8}
theorem Hr:b∈eL X q c n↔b=X\/q.ownBlock=some b\/(∃(i:Nat) (v:fB),c[i]?=some v/\b∈v.cM)\/b∈jK n:=by
 unfold eL;rw[cQ,cr,cr,oo];constructor
 .rintro (h|h|h|h)
  .exact .inl h
  .exact .inr (.inl (ia h))
  .exact .inr (.inr (.inl h))
  .exact .inr (.inr (.inr h))
 .rintro (h|h|h|h)
  .exact .inl h
  .exact .inr (.inl (by rw[h];simp))
  .exact .inr (.inr (.inl h))
  .exact .inr (.inr (.inr h))
def Qr:List Nat:=[129,116,125,134,5,175,216,4,9,143]
def Qs:List Nat:=[240,244,243,247,195,263,266,9,249,253]
theorem fs.types (h:fs W X j pt a g t q c cs n l)(hb:b∈eL X q c n)(d:W.heap[b]?=some (.cells Z T f)):T∈Qr:=by
 unfold Qr;rcases Hr.1 hb with e|e|⟨i,v,r,e⟩|e
 .have k:=h.eC;unfold CQ at k;rw[<-e,d]at k;simp at k;simp[k]
 .obtain⟨u,m⟩:=cZ h.row e;rw[d]at m;simp at m;simp[m]
 .obtain⟨s,w,o⟩:=h.get r;refine iS fun p=>?_
  simp at p;exact o.apart d ⟨by omega,by omega,by omega,by omega,by omega,by omega,by omega⟩ e
 .refine iS fun p=>?_
  simp at p;exact h.ji.apart d (by omega) (by omega) e
theorem eN.RU {e:Value}{c:List eE}{n:List Nat}(h:eN W X j pt a q e c cs n l)(hb:b∈fZ X q c n)(g:W.heap[b]?=some (.cells Z T f)):T∈Qs:=by
 obtain⟨i,r,d,k⟩:=h.types hb;rw[g]at d;simp at d;unfold Qs;rw[d.2.1];simp;omega
theorem fs.Sb {d:World}(h:fs W X j pt a g t q c cs n l)(k:∀b∈eL X q c n,d.heap[b]?=W.heap[b]?)(f:iT [137] W d):fs d X j pt a g t q c cs n l:=by
 refine h.keep (fun b i=>?_);obtain⟨o,m,_⟩:=h.gb;rcases i with e|e
 .exact k b e
 .rw[e];exact f _ _ _ _ m (by simp)
theorem fs.Nn (h:fs W X j pt a g t q c cs n l):qe cs:=fun s b=>by
 obtain⟨i,d,e⟩:=dG.1 b
 obtain⟨v,k,f⟩:=h.EC (by rw[cp d,e])
 exact Bq f.uz.di
theorem qD.more (h:qD a T cs l)(b:T<=r):qD a r cs l:=⟨fun s d=>cP (h.told s d) b,h.wl,fun u c=>⟨(h.ji u c).1,cP (h.ji u c).2 b⟩⟩
def gp (H:Nat)(l:List dS):Prop:=∀u∈l,u.held.length<=H
theorem gp.more {a:Nat}(h:gp H l)(b:H<=a):gp a l:=fun u c=>cP (h u c) b
theorem gp.same {a:List dS}(h:gp H l)(k:lI l a):gp H a:=fun u b=>by
 obtain⟨j,f,e⟩:=dG.1 b
 obtain⟨s,c,d,_⟩:=k.2 j u (by simp_all)
 rw[d]
 exact h s (cu c)
theorem gp.set (h:gp H l)(o:Nat){s':dS}(a:s'.held.length<=H):gp H (l.set o s'):=fun u b=>by
 rcases da b with e|e
 .exact h u e
 .rw[e];exact a
theorem gp.run (h:gp H d.2):gp H (mC j pt a i d).2:=h.same (Gb j pt a i d)
theorem gp.said (h:gp H d.2):gp H (oF j pt a i e d).2:=by
 unfold oF;split
 .exact h
 .exact gp.run h
theorem gp.runs:∀(n:Nat) {d:List dE×List dS},gp H d.2->gp H (sy j pt a n d).2:=by
 intro n;induction n with
 |zero=>intro d h;exact h
 |succ n b=>intro d h;rw[uH];exact gp.run (b h)
theorem gp.GU (h:gp H l):gp H (mz o l):=by
 unfold mz;split
 .exact h
 .exact h.set _ (cG _)
theorem gp.GO (h:gp H d.2):gp H (pd j pt a o d).2:=by
 exact gp.runs _ (gp.GU h)
theorem gp.Pn:∀(f:Nat) {d:List dE×List dS},gp H d.2->gp H (Bx j pt a o f d).1.2:=by
 intro f;induction f with
 |zero=>intro d h;exact h
 |succ f b=>
  intro d h;unfold Bx;split
  .exact h
  .rename_i s c;split
   .exact h
   .refine b (gp.run (h.set o ?_));have:=h s (cu c);simp only[fR]
    omega
theorem gp.listen (h:gp H d.2):gp H (kr j pt a o d).2:=by
 unfold kr sD;split
 .exact gp.Pn _ h
 .exact gp.GO (gp.Pn _ h)
theorem gp.Jr (h:gp H d.2):gp (H+e.length) (jO j pt a o e d).2:=by
 unfold jO;split
 .exact h.more (by omega)
 .rename_i s b;refine gp.listen ((h.more (by omega)).set o ?_);have:=h s (cu b);simp only[cI]
  omega
theorem gp.OK (h:gp H l):gp H (nA o l):=by
 unfold nA;split
 .exact h
 .rename_i s a;exact h.set o (h s (cu a))
structure oy where
 D:Nat
 X:Nat
 Xr:Nat
 sv:Nat
 pt:Nat
 win:Nat
 g:Nat
 sc:Nat
 cv:Value
 cis:List fB
 vs:List fe
 NK:Value
 rrv:Value
 yN:List eE
 rvs:List Nat
 cs:List dE
 ss:List dS
def oy.yi (d:oy):List Nat:=eL d.X d.cv d.cis d.vs
def oy.wP (d:oy):List Nat:=fZ d.Xr d.NK d.yN d.rvs
def oy.cM (d:oy):List Nat:=d.yi++d.wP
structure Ce (T:Nat)(d:oy):Prop where
 bd:qD d.win T d.cs d.ss
 held:gp T d.ss
theorem Ce.more {d:oy}(h:Ce T d)(a:T<=r):Ce r d:=⟨h.bd.more a,h.held.more a⟩
structure nU (w:World)(lo:Nat)(d:oy):Prop where
 eC:w.heap[d.D]?=some (.cells #[dC d.X,dC d.Xr] 201 (0,0))
 iw:fs w d.X d.sv d.pt d.win d.g d.sc d.cv d.cis d.cs d.vs d.ss
 ref:eN w d.Xr d.sv d.pt d.win d.NK d.rrv d.yN d.cs d.rvs d.ss
 ap:∀b∈d.yi,b∉d.wP
 ge:∀b∈d.cM,lo<=b
theorem nU.old {d:oy}(h:nU w m d)(hb:b∈d.cM):b<w.heap.size:=by
 rcases cr.1 hb with e|e
 .exact h.iw.old b e
 .exact h.ref.old e
theorem nU.types {d:oy}(h:nU w m d)(hb:b∈d.cM)(a:w.heap[b]?=some (.cells Z T f)):T∈Qr++Qs:=by
 rcases cr.1 hb with e|e
 .exact cr.2 (.inl (h.iw.types e a))
 .exact cr.2 (.inr (h.ref.RU e a))
theorem nU.keep {d:oy}(h:nU w m d)(e:w.heap.size<=w'.heap.size)(k:∀b∈d.cM,w'.heap[b]?=w.heap[b]?)(a:iT [201,137,241] w w'):nU w' m d:=
 ⟨(a _ _ _ _ h.eC (by simp)).trans h.eC,h.iw.Sb (fun b c=>k b (cr.2 (.inl c))) (a.sub (by simp)),h.ref.keep e (fun b c=>k b (cr.2 (.inr c))) (a.sub (by simp)),h.ap,h.ge⟩
theorem nU.below {d:oy}(h:nU w m d)(hb:Below w.heap.size w w'):nU w' m d:=h.keep hb.size (fun b a=>hb.block b (h.old a)) (iT.below hb)
structure Li where
 a0:Value
 a2:Value
 a3:Value
 a4:Value
 a5:Value
 a6:Value
def LW (A:Li)(s:Value):Obj:= .cells #[A.a0,s,A.a2,A.a3,A.a4,A.a5,A.a6] 87 (0,0)
structure rG (w:World)(lo B:Nat)(A:Li)(jv:Value)(ds:List oy)(T:Nat):Prop where
 wd:w.heap[B]?=some (LW A jv)
 ge:lo<=B
 row:Row w lo 154 1 jv ds.length (ds.map fun d=>dC d.D)
 all:∀d∈ds,nU w lo d/\Ce T d
 ap:∀(i j:Nat) (d e:oy),i≠j->ds[i]?=some d->ds[j]?=some e->∀b∈d.cM,b∉e.cM
section
variable {A:Li}{p:List oy}
theorem rG.below (h:rG w m B A s p T)(hb:Below w.heap.size w w'):rG w' m B A s p T:=
 ⟨(hb.block B (cA h.wd)).trans h.wd,h.ge,h.row.other (fun g Z _ b _=>hb.block g (cA b)),fun d a=>⟨(h.all d a).1.below hb,(h.all d a).2⟩,h.ap⟩
theorem rG.more (h:rG w m B A s p T)(b:T<=r):rG w m B A s p r:=⟨h.wd,h.ge,h.row,fun d a=>⟨(h.all d a).1,(h.all d a).2.more b⟩,h.ap⟩
theorem rG.step (h:rG w m B A s p T)(R:T<=r)(S:m<=w.heap.size){d u:oy}(y:p[i]?=some d)(k:eH d.cM w w')(P:dB w d.cM u.cM)(U:u.D=d.D)(C:nU w' m u)(hb:Ce r u):rG w' m B A s (p.set i u) r/\Below m w w'/\jk w w':=by
 have V:=(cq.1 y).1;obtain⟨D,_⟩:=h.all d (cu y);have H:∀I:List Nat,(∀t∈I,t∉Qr++Qs)->iT I w w':=fun I J=>Bw k (fun b hb Z T f z=>D.types hb z) J
 have E:=h.wd;have F:(p.set i u).map (fun d=>dC d.D)=p.map (fun d=>dC d.D):=by
  apply fS;intro j;rw[cL,cL,dD];split
  .rename_i e;subst e;rw[y];simp[U]
  .rfl
 have v:∀(j:Nat) (e:oy),p[j]?=some e->∀b∈e.cM,b<w.heap.size:=fun j e K b hb=>(h.all e (cu K)).1.old hb
 refine⟨⟨((H [87] (by decide)) _ _ _ _ E (by simp)).trans E,h.ge,?_,fun e K=>?_,fun a j L M l n x b o q=>?_⟩,⟨k.os,k.tape,k.output,k.size,fun b hb=>k.block b (by omega) (fun W=>by have:=D.ge b W;omega)⟩,fun b Z z=>((H [95] (by decide)) _ _ _ _ z (by simp)).trans z⟩
 .rw[F,dj];exact h.row.other (fun g Z _ z _=>(H [154] (by decide)) _ _ _ _ z (by simp))
 .obtain⟨j,X,Q⟩:=dG.1 K;have c:(p.set i u)[j]?=some e:=by grind
  rw[dD]at c;split at c
  .simp at c;rw[<-c];exact⟨C,hb⟩
  .rename_i N;have n:=h.all e (cu c);exact⟨n.1.keep k.size (fun b hb=>k.block b (v j e c b hb) (h.ap j i e d (fun e=>N e.symm) c y b hb)) (H _ (by decide)),n.2.more R⟩
 .rw[dD]at n x;split at n
  .rename_i Q;subst Q;split at x
   .rename_i O;exact l O
   .obtain⟨_,rfl⟩:=n;rcases P b o with h3|h3
    .exact h.ap i j d M l y x b h3 q
    .have:=v j M x b q;omega
  .split at x
   .rename_i O;subst O;obtain⟨_,rfl⟩:=x;rcases P b q with h3|h3
    .exact h.ap a i L d l n y b o h3
    .have:=v a L n b o;omega
   .exact h.ap a j L M l n x b o q
end
variable {i T:Nat}{s:dE}
theorem qe.set {cs:List dE}(h:qe cs){s':dE}(a:cs[i]?=some s)(e:s'.d=s.d):qe (cs.set i s'):=fun x b=>by
 rcases da b with h1|h1
 .exact h x h1
 .rw[h1,e];exact h s (cu a)
structure tW (w w':World)(X sv pt win T:Nat)(cv rv:Value)(n:Nat)(M:List Nat)(vs:List Nat)(cis:List eE)(st:List dE×List dS):Prop where
 iw:eN w' X sv pt win cv rv cis st.1 vs st.2
 ks:cis.length=n
 bd:qD win T st.1 st.2
 di:qe st.1
 mQ:eH M w w'
 sF:dB w M (fZ X cv cis vs)
section
variable {w:World}{X l pt f:Nat}{n o:Value}{d:List eE}{cs:List dE}{m:List Nat}{j:List dS}
theorem tw (h:eN w X l pt f n o d cs m j){v:eE}(b:d[i]?=some v)(g:T+5000<=100000000000)(hb:qD f T cs j)(c:qe cs):Calls prog 151 #[.pointer (some ⟨X,0,none⟩),.pointer (some ⟨v.K,0,none⟩)] w fun e w'=>e= .returned (.tuple #[])/\∃v',v'.K=v.K/\tW w w' X l pt f T n o d.length (fZ X n d m) m (d.set i v') (mC l pt f i (cs,j)):=by
 have k:=(cq.1 b).1;obtain⟨s,a,y⟩:=h.get b;have e:mC l pt f i (cs,j)=(cs.set i (lZ l pt f (lJ cs i) (hU s) j).1,(lZ l pt f (lJ cs i) (hU s) j).2):=by unfold mC;simp only[a]
 rw[e];refine(KI (T:=T) (v0:=v) (s0:=s) (aU:=j) (r:=lZ l pt f (lJ cs i) (hU s) j) ⟨by rw[ls b,ls a];exact h,rfl,rfl,eH.refl _ _,by rw[ls b];exact dB.refl _ _,rfl,hb.at_ a,rfl⟩ k g (c s (cu a))).mono ?_;rintro e w' ⟨rfl,p,q,v',r,t,u,x⟩;exact⟨rfl,v',r,t,by simp,hb.set a p,c.set a q,u,x⟩
theorem KH (h:eN w X l pt f n o d cs m j)(k:Int)(b:ByteArray)(i:k<0\/(d.length:Int)<=k):Calls prog 115 #[.pointer (some ⟨X,0,none⟩),.int .i64 k,.string b] w fun e w'=>e= .returned (.int .i64 1)/\w'=w:=by
 obtain⟨a,c,rfl⟩:=jr h.rh;have g:=h.eC;have p:=cn g 3;by_cases q:k<0
 .go_wp2;go_ret;exact⟨rfl,rfl⟩
 .go_wp2;go_ret;exact⟨rfl,rfl⟩
theorem Iw (h:eN w X l pt f n o d cs m j)(x:cs[i]?=some s)(a:ByteArray)(F:T+5000<=100000000000)(hb:qD f T (cs.set i (zi s a.data.toList)) j)(H:qe cs)(I:s.st.held.length+a.size<=1000000000000):Calls prog 115 #[.pointer (some ⟨X,0,none⟩),.int .i64 (i:Int),.string a] w fun e w'=>e= .returned (.int .i64 0)/\∃k,tW w w' X l pt f T n o d.length (fZ X n d m) m k (oF l pt f i a.data.toList (cs,j)):=by
 obtain⟨v,t,p⟩:=h.Ns x;have S:=(cq.1 t).1;obtain⟨g,c,rfl,J,K⟩:=pE h.rh (by simp) (i:=i) (x:=dC v.K) (by rw[cL,t];rfl);unfold dC at K;have L:=h.eC;have U:=cn L 3;have M:=p.eC;have V:=cn M 1;have W:¬(i:Int)<0:=by omega
 have Y:¬(d.length:Int)<=(i:Int):=by omega
 have Z:(i:Int)<(d.length:Int):=by omega
 have y:=cb (tn v.Y s.d s.st a w p.rd I);have z:Hid (∀q,iU q v.Y s.d (jL s.st a.data.toList)->ie v.Y w q->Calls prog 151 #[.pointer (some ⟨X,0,none⟩),.pointer (some ⟨v.K,0,none⟩)] q fun e w'=>e= .returned (.tuple #[])/\∃k,tW w w' X l pt f T (.slice (some ⟨g,0,none⟩) d.length c) o d.length (fZ X (.slice (some ⟨g,0,none⟩) d.length c) d m) m k (oF l pt f i a.data.toList (cs,j))):=fun q A r=>by
  obtain⟨N,C⟩:=p.FD r A;obtain⟨D,O⟩:=h.Qe (s':=zi s a.data.toList) t C N rfl (dB.refl _ _) (h.wl s (cu x));have E:eH (fZ X (.slice (some ⟨g,0,none⟩) d.length c) d m) w q:=C.more (fun b hb=>eS.2 (.inr (.inr (.inl ⟨i,v,t,hb⟩))));rw[ls t]at D O;refine(tw D t F hb (H.set x rfl)).mono ?_;rintro e w' ⟨rfl,v',_,u⟩;have P:oF l pt f i a.data.toList (cs,j)=mC l pt f i (cs.set i (zi s a.data.toList),j):=by unfold oF;simp only[x]
  rw[P];exact⟨rfl,_,u.iw,u.ks,u.bd,u.di,E.trans u.mQ (dB.refl _ _),(dB.refl _ _).trans u.sF E.size⟩
 go_enter func115,ntmps115;go_wp2_with fail
 refine y.out.mono ?_;rintro e q ⟨rfl,A,r⟩;have B:=cb (z.out q A r);go_wp2_with fail
 refine B.out.mono ?_;rintro e w2 ⟨rfl,Q⟩;have R:=cb Q;go_wp2;go_ret;exact⟨rfl,R.out⟩
end
variable {W z:World}{u:sH}{x:QS}{m b k:Nat}{p' p:PS}{v:eE}{s:dE}
theorem GS {c:List sH}(h:(Px c).Nodup):(∀u∈c,u.cM.Nodup)/\∀(i j:Nat) (u v:sH),i≠j->c[i]?=some u->c[j]?=some v->∀b∈u.cM,b∉v.cM:=by
 unfold Px List.Nodup at h;rw[List.pairwise_flatten]at h;obtain⟨m,d⟩:=h;refine⟨fun u e=>m _ (dA.2 ⟨u,e,rfl⟩),?_⟩;rw[List.pairwise_map,List.pairwise_iff_getElem]at d;intro i j u v f e n b g a;obtain⟨k,rfl⟩:=cq.1 e;obtain⟨l,rfl⟩:=cq.1 n;rcases Nat.lt_or_gt_of_ne f with h|h
 .exact d i j k l h b g b a rfl
 .exact d j i l k h b a b g rfl
theorem mX.wy (h:mX W u x)(y:u.cM.Nodup)(hb:u.bs[m]?=some b)(k:eH [b] W z)(A:kO z b p'):mX z u ⟨x.c,x.ps.set m p'⟩:=by
 have l:=(cq.1 hb).1;obtain⟨L,B⟩:∃Z,W.heap[b]?=some (.cells Z 253 (0,0)):=by
  obtain⟨i,p,_,_,C⟩:=h.part (cu hb);exact C.eC
 have n:∀{a T:Nat} {Z:Array Value},W.heap[a]?=some (.cells Z T (0,0))->T≠253->z.heap[a]?=W.heap[a]?:=fun j M=>k.block _ (cA j) (fun e=>by simp_all)
 have q:u.bs.Nodup:=by
  have D:=(py.1 y).2;exact(fJ.1 (fJ.1 D).2.1).2.1
 have E:=h.eC;refine⟨(n E (by decide)).trans h.eC,dR h.row (fun g F=>by obtain⟨H,I⟩:=cZ h.row F;exact n I (by decide)),by rw[dj];exact h.len,fun i r p d s=>?_,h.keys.keep k.size (fun a j=>?_)⟩
 .have f:=s;by_cases e:m=i
  .subst e;rw[cK (by grind)]at f;rw[hb]at d;cases d;cases f;exact A
  .rw[de e]at f;have v:=h.ok i r p d f;obtain⟨N,t⟩:=v.eC;refine v.keep (k.block r (cA t) (fun w=>?_));simp at w;subst w;exact e ((PV l q).1 (hb.trans d.symm))
 .rcases h.keys with⟨e,_⟩|⟨r,o,c,Z,J,O,K,P⟩
  .rw[e]at j;cases j
  .rw[J]at j;cases j;exact n K (by decide)
theorem jt.wy (h:jt W v s)(l:v.ws[k]?=some u)(q:s.qs[k]?=some x)(hb:u.bs[m]?=some b)(c:eH [b] W z)(r:kO z b p')(t:tV x.c.kind p'):jt z v {s with qs:=s.qs.set k ⟨x.c,x.ps.set m p'⟩}/\eH v.cM W z:=by
 obtain⟨H,I⟩:=GS h.nd;have w:=(cq.1 q).1;have o:=h.qu k u x l q;have n:b∈u.cM:=by unfold sH.cM;simp[List.mem_of_getElem? hb]
 obtain⟨R,J⟩:∃Z,W.heap[b]?=some (.cells Z 253 (0,0)):=by
  obtain⟨i,p,_,_,o⟩:=o.part (cu hb);exact o.eC
 have A:∀{a T:Nat} {Z:Array Value},W.heap[a]?=some (.cells Z T (0,0))->T≠253->z.heap[a]?=W.heap[a]?:=fun j S=>c.block _ (cA j) (fun e=>by simp_all)
 have K:=h.eC;have L:=h.rd.at_;refine⟨⟨(A K (by decide)).trans h.eC,⟨(A L (by decide)).trans h.rd.at_,h.rd.ok⟩,h.row.other (fun g M=>by obtain⟨N,O⟩:=h.row.eC M;exact A O (by decide)),by rw[dj];exact h.len,fun i D P d B=>?_,h.nd,fun y Q=>?_⟩,c.more (fun a j=>?_)⟩
 .have f:=B;by_cases e:k=i
  .subst e;rw[cK w]at f;rw[l]at d;cases d;cases f;exact o.wy (H u (cu l)) hb c r
  .rw[de e]at f;have E:=h.qu i D P d f;exact E.keep c.size (fun a j=>c.block a (E.old a j) (fun F=>by
    simp at F;subst F;exact I k i u D e l d a n j))
 .rcases da Q with h1|h1
  .exact h.ok y h1
  .have C:=h.ok x (cu q);rw[h1];exact⟨C.w,by rw[dj];exact C.len,fun p r=>by
    rcases da r with h3|h3
    .exact C.ps p h3
    .rw[h3];exact t⟩
 .simp at j;rw[j];unfold eE.cM;exact cJ _ (cJ _ (cr.2 (.inr (uC.2 ⟨u,cu l,n⟩))))
section
variable {w wr w':World}{X t pt d:Nat}{f n:Value}{a:List eE}{cs c:List dE}{g:List Nat}{l:List dS}{o j q r:Nat}
theorem eN.wy (h:eN w X t pt d f n a cs g l){i:Nat}(e:a[i]?=some v)(o:cs[i]?=some s)(r:v.ws[k]?=some u)(y:s.qs[k]?=some x)(hb:u.bs[m]?=some b)(c:eH [b] w w')(z:kO w' b p')(j:tV x.c.kind p'):eN w' X t pt d f n a (cs.set i {s with qs:=s.qs.set k ⟨x.c,x.ps.set m p'⟩}) g l/\eH (fZ X f a g) w w':=by
 obtain⟨A,p⟩:=(h.jV i v s e o).wy r y hb c z j;obtain⟨q,_⟩:=h.Qe e p A rfl (dB.refl _ _) (by rw[dj];exact h.wl s (cu o));rw[ls e]at q;exact⟨q,p.more (fun b hb=>eS.2 (.inr (.inr (.inl ⟨i,v,e,hb⟩))))⟩
structure qR (w wr:World)(X sv pt win:Nat)(cv rv:Value)(cis:List eE)(cs cs':List dE)(vs:List Nat)(ss:List dS)(o j q r:Nat):Prop where
 iw:eN wr X sv pt win cv rv cis cs' vs ss
 eq:cs'.map (lU o)=cs.map (lU o)
 c1:∀(i:Nat) (s:dE),i<j->cs'[i]?=some s->lU o s=s
 c2:∀(s:dE) (k:Nat) (x:QS),cs'[j]?=some s->k<q->s.qs[k]?=some x->mx o x=x
 c3:∀(s:dE) (x:QS) (m:Nat) (p:PS),cs'[j]?=some s->s.qs[q]?=some x->m<r->x.ps[m]?=some p->jW o p=p
 mQ:eH (fZ X cv cis vs) w wr
theorem qR.start (h:eN wr X t pt d f n a cs g l)(k:eH (fZ X f a g) w wr):qR w wr X t pt d f n a cs cs g l o 0 0 0:=
 ⟨h,rfl,fun _ _ h=>by omega,fun _ _ _ _ h=>by omega,fun _ _ _ _ _ _ h=>by omega,k⟩
theorem qR.skip (h:qR w wr X t pt d f n a cs c g l o j q r)(u:c[j]?=some s)(v:s.qs[q]?=some x)(y:x.ps[r]?=some p)(z:jW o p=p):qR w wr X t pt d f n a cs c g l o j q (r+1):=
 ⟨h.iw,h.eq,h.c1,h.c2,fun A B m C b i D k=>by
  by_cases e:m=r
  .subst e;rw[u]at b;cases b;rw[v]at i;cases i;rw[y]at k;cases k;exact z
  .exact h.c3 A B m C b i (by omega) k,h.mQ⟩
theorem qR.OV (h:qR w wr X t pt d f n a cs c g l o j q r)(u:c[j]?=some s)(v:s.qs[q]?=some x)(B:x.ps.length<=r):qR w wr X t pt d f n a cs c g l o j (q+1) 0:=
 ⟨h.iw,h.eq,h.c1,fun z k A b C i=>by
  by_cases e:k=q
  .subst e;rw[u]at b;cases b;rw[v]at i;cases i;have:x.ps.map (jW o)=x.ps:=by
    apply fS;intro m;rw[cL];cases y:x.ps[m]?with
    |none=>rfl
    |some p=>
     have D:=(cq.1 y).1;rw[gP,h.c3 s x m p u v (by omega) y]
   unfold mx;rw[this]
  .exact h.c2 z k A b (by omega) i,fun _ _ _ _ _ _ h=>by omega,h.mQ⟩
theorem qR.OW (h:qR w wr X t pt d f n a cs c g l o j q r)(k:c[j]?=some s)(x:s.qs.length<=q):qR w wr X t pt d f n a cs c g l o (j+1) 0 0:=
 ⟨h.iw,h.eq,fun i v y b=>by
  by_cases e:i=j
  .subst e;rw[k]at b;cases b;have:s.qs.map (mx o)=s.qs:=by
    apply fS;intro m;rw[cL];cases u:s.qs[m]?with
    |none=>rfl
    |some p=>
     have z:=(cq.1 u).1;rw[gP,h.c2 s m p k (by omega) u]
   unfold lU;rw[this]
  .exact h.c1 i v (by omega) b,fun _ _ _ _ h=>by omega,fun _ _ _ _ _ _ h=>by omega,h.mQ⟩
theorem qR.OU (h:qR w wr X t pt d f n a cs c g l o j q r)(e:c.length<=j):c=cs.map (lU o):=by
 rw[<-h.eq];apply fS;intro m;rw[cL];cases b:c[m]?with
 |none=>rfl
 |some p=>
  have i:=(cq.1 b).1;rw[gP,h.c1 m p (by omega) b]
theorem qR.fail (h:qR w wr X t pt d f n a cs c g l o j q r){id:Nat}(L:a[j]?=some v)(A:c[j]?=some s)(M:v.ws[q]?=some u)(C:s.qs[q]?=some x)(hb:u.bs[r]?=some b)(F:x.ps[r]?=some (.op o id)):qR w (wr.setCell ⟨b,2,none⟩ (.int .i64 2)) X t pt d f n a cs (c.set j {s with qs:=s.qs.set q ⟨x.c,x.ps.set r .fl⟩}) g l o j q (r+1):=by
 have H:=((h.iw.jV j v s L A).qu q u x M C).ok r b _ hb F;obtain⟨Q,R⟩:=h.iw.wy L A M C hb ((eH.refl [b] wr).set (p:=⟨b,2,none⟩) (.inl (by simp)) (.int .i64 2)) (p':= .fl) ⟨o,id,(dh (i:=2) H _).trans rfl⟩ Qa;have B:=(cq.1 A).1;have I:=(cq.1 C).1;have J:=(cq.1 F).1;refine⟨Q,?_,fun i K y z=>?_,fun K k N y z O=>?_,fun K N m p y z O D=>?_,h.mQ.trans R (fun b hb=> .inl hb)⟩
 .have S:mx o ⟨x.c,x.ps.set r .fl⟩=mx o x:=by
   unfold mx;simp only
   rw[PW,show jW o .fl= .fl from rfl,ls (by rw[cL,F];simp[jW])]
  have T:lU o {s with qs:=s.qs.set q ⟨x.c,x.ps.set r .fl⟩}=lU o s:=by
   unfold lU;simp only
   rw[PW,S,ls (by simp_all)]
  rw[PW,T,ls (by grind)];exact h.eq
 .rw[de (by omega)]at z;exact h.c1 i K y z
 .rw[cK B]at y;cases y;have D:=O;rw[de (by omega)]at D;exact h.c2 s k N A z D
 .rw[cK B]at y;cases y;have P:=z;rw[cK I]at P;cases P;have E:=D;by_cases e:r=m
  .subst e;rw[cK J]at E;cases E;rfl
  .rw[de e]at E;exact h.c3 s x m p A C (by omega) E
end
theorem kO.Ni (h:kO W b p)(o:Nat):∃(d i f j:Nat) (g:ByteArray),W.heap[b]?=some (xe d i f j g)/\((d=o/\f=0)->∃id,p= .op o id)/\(¬(d=o/\f=0)->jW o p=p):=by
 cases p using PS.el with
 |un=>exact h.elim
 |op a c=>exact⟨a,c,0,0,_,h,fun e=>⟨c,by rw[e.1]⟩,fun e=>by show(if a=o then PS.fl else PS.op a c)=PS.op a c;rw[cD (fun k=>e ⟨k,rfl⟩)]⟩
 |an s v=>
  obtain⟨a,c,h⟩:=h;exact⟨a,c,1,s,v,h,fun e=>by simp at e,fun _=>rfl⟩
 |fl=>
  obtain⟨a,c,h⟩:=h;exact⟨a,c,2,0,_,h,fun e=>by simp at e,fun _=>rfl⟩
variable {cs:List dE}{v:eE}{s:dE}{u:sH}
theorem qe.fail (h:qe cs)(o:Nat):qe (cs.map (lU o)):=fun s a=>by
 obtain⟨b,c,rfl⟩:=dA.1 a
 exact h b c
section
variable {w wr:World}{X t pt d:Nat}{A z:Value}{c:List eE}{cs y:List dE}{f:List Nat}{l:List dS}{o j q r:Nat}
theorem eN.Ec (h:eN wr X t pt d A z c cs f l)(r:c[j]?=some v):∃s g b k wc,cs[j]?=some s/\A= .slice (some ⟨g,0,none⟩) c.length b/\wr.cell? ⟨X,3,none⟩=some A/\X<wr.heap.size/\g<wr.heap.size/\wr.cell? ⟨g,j,none⟩=some (.pointer (some ⟨v.K,0,none⟩))/\v.K<wr.heap.size/\wr.cell? ⟨v.K,2,none⟩=some (.slice k v.ws.length wc)/\gW wr 263 (.slice k v.ws.length wc) (v.ws.map (fun u=>dC u.B))/\v.ws.length=s.qs.length/\v.ws.length<=6:=by
 obtain⟨s,n,a⟩:=h.get r;obtain⟨g,b,e,m,w⟩:=pE h.rh (by simp) (i:=j) (x:=dC v.K) (by grind);obtain⟨k,wc,i⟩:=a.row.len;rw[dp]at i;have o:=a.eC;have p:=cn o 2;simp at p;have q:=h.eC;have x:=cn q 3;have B:=h.wl s (cu n);have C:=h.w6;have y:=a.len;exact⟨s,g,b,k,wc,n,e,x,cA q,m,w,cA o,by rw[p,i],by rw[<-i];exact a.row,y,by omega⟩
theorem eN.Jz (h:eN wr X t pt d A z c cs f l)(w:c[j]?=some v)(y:cs[j]?=some s)(m:v.ws[q]?=some u):∃x i k,s.qs[q]?=some x/\u.B<wr.heap.size/\wr.cell? ⟨u.B,6,none⟩=some (.slice i u.bs.length k)/\u.pv= .slice i u.bs.length k/\u.bs.length=x.ps.length/\u.bs.length<=4:=by
 have a:=h.jV j v s w y;have e:q<s.qs.length:=by rw[<-a.len];exact(cq.1 m).1
 have n:=cp e;have b:=a.qu q u _ m n;have o:=a.ok _ (List.getElem_mem e);obtain⟨i,k,g⟩:=jr b.row;have p:=b.eC;have r:=cn p 6;simp at r;have C:=o.len;have D:=o.w.cm.k4;have B:=b.len;exact⟨_,i,k,n,cA p,by rw[r,g],g,B,by omega⟩
theorem eN.Nj (h:eN wr X t pt d A z c cs f l){x:QS}{b:Nat}(n:c[j]?=some v)(o:cs[j]?=some s)(w:v.ws[q]?=some u)(y:s.qs[q]?=some x)(hb:u.bs[r]?=some b):∃p g a,x.ps[r]?=some p/\kO wr b p/\u.pv= .slice (some ⟨g,0,none⟩) u.bs.length a/\g<wr.heap.size/\wr.cell? ⟨g,r,none⟩=some (.pointer (some ⟨b,0,none⟩)):=by
 have i:=(h.jV j v s n o).qu q u x w y;obtain⟨g,a,e,m,B⟩:=pE i.row (by simp) (i:=r) (x:=dC b) (by grind);have k:r<x.ps.length:=by rw[<-i.len];exact(cq.1 hb).1
 exact⟨_,g,a,cp k,i.ok r b _ hb (cp k),e,m,B⟩
end
theorem KF {w:World}{X t pt d:Nat}{A z:Value}{c:List eE}{f:List Nat}{l:List dS}(h:eN w X t pt d A z c cs f l){o:Nat}{su:dS}(U:l[o]?=some su){T:Nat}(hT:T+5000<=100000000000)(hb:qD d T cs l)(hd:qe cs):Calls prog 152 #[.pointer (some ⟨X,0,none⟩),.int .i64 (o:Int)] w fun e w'=>e= .returned (.tuple #[])/\∃an,tW w w' X t pt d T A z c.length (fZ X A c f) f an (pd t pt d o (cs,l)):=by
 obtain⟨S,g,rc,M,af,N,hg,O⟩:=h.tD U;have hi:=(cq.1 M).1;obtain⟨ca,V,rfl⟩:=jr h.rh;have F:=h.eC;unfold DW at F;have c3:=cn F 3;have c4:=cn F 4;simp at c3 c4;rw[af]at c4;have aF:=cA F;have aY:=h.c4;have aG:f.length<=4:=by rw[h.len];exact h.s4
 have ao:mz o l=l.set o {su with up:=false,held:=[]}:=by unfold mz;rw[U]
 have aH:Hid (qR w ((w.setCell ⟨S,0,none⟩ (.bool false)).setCell ⟨S,2,none⟩ (.string ⟨#[]⟩)) X t pt d (.slice ca c.length V) z c cs cs f (mz o l) o 0 0 0):=by
  rw[ao];obtain⟨a1,a2⟩:=h.se (s':={su with up:=false,held:=[]}) M U (((eH.refl [S] w).set (p:=⟨S,0,none⟩) (.inl (by simp)) (.bool false)).set (p:=⟨S,2,none⟩) (.inl (by simp)) (.string ⟨#[]⟩)) ((dh (i:=2) (dh (i:=0) O _) _).trans rfl) (h.nx su (cu U));exact qR.start a1 a2
 have ag:Hid (qD d T (cs.map (lU o)) (mz o l)/\qe (cs.map (lU o))/\cs.length=c.length):=⟨hb.GU o,hd.fail o,h.cl.symm⟩
 have HR:Hid (∀(wr:World) (C:List eE) (W:List dE) (ab:List dS) (i:Nat) (v:eE),eN wr X t pt d (.slice ca c.length V) z C W f ab->C[i]?=some v->qD d T W ab->qe W->Calls prog 151 #[.pointer (some ⟨X,0,none⟩),.pointer (some ⟨v.K,0,none⟩)] wr fun e w'=>e= .returned (.tuple #[])/\∃v',v'.K=v.K/\tW wr w' X t pt d T (.slice ca c.length V) z C.length (fZ X (.slice ca c.length V) C f) f (C.set i v') (mC t pt d i (W,ab))):=fun wr C W ab i v h1 M aI aJ=>tw h1 M hT aI aJ
 unfold tS at O;have k0:=cn O 0;have k2:=cn O 2;simp at k0 k2;have kf:=dN O;have P:=cA O;have aK:¬S=X:=fun e=>by rw[e,F]at O;simp at O
 have aL:¬g=S:=fun e=>by
  obtain⟨aZ,hc⟩:=cZ h.ub (g:=g) (by rw[af];rfl);rw[e,O]at hc;simp at hc
 have h1:(o:Int)<(f.length:Int):=by omega
 have h0:¬(o:Int)<0:=by omega
 clear h F O hb hd M U ao af;generalize ap:c.length=n at*;have HN:=cb ap;clear ap;go_enter func152,ntmps152;go_wp2_with fail
 generalize (w.setCell ⟨S,0,none⟩ (.bool false)).setCell ⟨S,2,none⟩ (.string ⟨#[]⟩)=w1 at*;clear c3 c4 k0 k2 kf P aK aL h1 h0 hg N hi aF aG;go_loopw [4,5,6,7] (fun i _ _ _ wr=>∃(j:Nat) (y:List dE),j<=n/\i= .int .i64 (j:Int)/\Hid (qR w wr X t pt d (.slice ca n V) z c cs y f (mz o l) o j 0 0)) (fun i _ _ _ _=>n-(intOf i).toNat)
 case atStart=>exact⟨0,cs,cG _,rfl,aH⟩
 case round=>
  obtain⟨j,y,hj,rfl,HJ⟩:=hrel;by_cases aM:j<n
  .have aq:(j:Int)<(n:Int):=by omega
   obtain⟨v,M⟩:∃v,c[j]?=some v:=⟨_,cp (by rw[HN.out];exact aM)⟩
   obtain⟨s,g,ar,wa,wc,hs,e,x3,Y,N,hg,P,k2,J,ac,a0⟩:=HJ.out.iw.Ec M;rw[HN.out]at e;cases e;have HV:=cb M;clear M hs J ac;generalize au:v.ws.length=m at*;have HM:=cb au;clear au;generalize av:v.K=K at*;have aN:=cb av;clear av;go_wp2_with fail
   clear x3 Y N hg P k2;go_loopw [5,6,7] (fun k _ _ wr=>∃(q:Nat) (y:List dE),q<=m/\k= .int .i64 (q:Int)/\Hid (qR w wr X t pt d (.slice (some ⟨g,0,none⟩) n V) z c cs y f (mz o l) o j q 0)) (fun k _ _ _=>m-(intOf k).toNat)
   case atStart=>exact⟨0,y,cG _,rfl,HJ⟩
   case round=>
    obtain⟨q,aw,hq,rfl,HQ⟩:=hrel;obtain⟨s,g',ar,wa,wc,hs,e,x3,Y,N,hg,P,k2,J,ac,_⟩:=HQ.out.iw.Ec HV.out;rw[HN.out]at e;cases e;rw[aN.out]at hg P k2;have ad:=cb J;rw[HM.out]at k2 ad;have HS:=cb hs;have aO:=cb ac;clear hs J ac;by_cases aP:q<m
    .have ax:(q:Int)<(m:Int):=by omega
     obtain⟨u,hu⟩:∃u,v.ws[q]?=some u:=⟨_,cp (by rw[HM.out];exact aP)⟩
     obtain⟨g2,a3,c2,ay,aQ,az,ae⟩:=ad.out.at_ (i:=q) (x:=dC u.B) (by rw[cL,hu];rfl);rw[dp,HM.out]at ay aQ;cases ay;unfold dC at ae;obtain⟨x,pa,pc,hx,ah,b6,H,aA,a4⟩:=HQ.out.iw.Jz HV.out HS.out hu;have HU:=cb hu;clear hu hx H aA;generalize aB:u.bs.length=pn at*;have HP:=cb aB;clear aB;generalize aC:u.B=B at*;have aR:=cb aC;clear aC;go_wp2_with fail
     clear x3 Y N hg P k2 az ae ah b6;go_loopw [7] (fun k wr=>∃(r:Nat) (y:List dE),r<=pn/\k= .int .i64 (r:Int)/\Hid (qR w wr X t pt d (.slice (some ⟨g,0,none⟩) n V) z c cs y f (mz o l) o j q r)) (fun k _=>pn-(intOf k).toNat)
     case atStart=>exact⟨0,aw,cG _,rfl,HQ⟩
     case round=>
      obtain⟨r,ai,hr,rfl,Q⟩:=hrel;obtain⟨s3,E,_⟩:=Q.out.iw.get HV.out;obtain⟨x3,a5,a6,I,ah,b6,H,L,_⟩:=Q.out.iw.Jz HV.out E HU.out;rw[aR.out]at ah b6;rw[HP.out]at b6 H L;by_cases aS:r<pn
      .have aD:(r:Int)<(pn:Int):=by omega
       obtain⟨b,hb⟩:∃b,u.bs[r]?=some b:=⟨_,cp (by rw[HP.out];exact aS)⟩
       obtain⟨p,g3,aV,hp,Z,aj,aW,aX⟩:=Q.out.iw.Nj HV.out E HU.out I hb;rw[HP.out]at aj;rw[H]at aj;cases aj;obtain⟨po,pi,st,kd,a7,R,ak,al⟩:=Z.Ni o;unfold xe at R;have p0:=cn R 0;have p2:=cn R 2;simp at p0 p2;have pf:=dN R;by_cases aa:po=o/\st=0
       .obtain⟨id,hid⟩:=ak aa;subst hid;have HF:=cb ((Q.out.fail HV.out E HU.out I hb hp));obtain⟨e1,e2⟩:=aa;subst e1 e2;clear Z R hp hb ak al H I E L;go_wp2;go_roundw;case rel=>exact⟨r+1,_,by omega,by go_num,HF⟩
        case measure=>simp[intOf];omega
       .have HF:=cb ((Q.out.skip E I hp (al aa)));clear Z R hp hb ak al H I E L;by_cases ho:po=o
        .subst ho;have a8:¬(st:Int)=0:=by omega
         clear aa;go_wp2;go_roundw;case rel=>exact⟨r+1,ai,by omega,by go_num,HF⟩
         case measure=>simp[intOf];omega
        .have a9:¬(po:Int)=(o:Int):=by omega
         clear aa;go_wp2;go_roundw;case rel=>exact⟨r+1,ai,by omega,by go_num,HF⟩
         case measure=>simp[intOf];omega
      .have aD:¬(r:Int)<(pn:Int):=by omega
       have HE:=cb (Q.out.OV E I (by omega));clear H I E L;go_wp2;go_roundw;case rel=>exact⟨q+1,ai,by omega,by go_num,HE⟩
       case measure=>simp[intOf];omega
    .have ax:¬(q:Int)<(m:Int):=by omega
     have HE:=cb (HQ.out.OW HS.out (by have:=aO.out;have:=HM.out;omega));go_wp2;go_roundw;case rel=>exact⟨j+1,aw,by omega,by go_num,HE⟩
     case measure=>simp[intOf];omega
  .have aq:¬(j:Int)<(n:Int):=by omega
   have F:=HJ.out.iw.eC;unfold DW at F;have x3:=cn F 3;simp at x3;have Y:=cA F;have e:=HJ.out.OU (by have:=HJ.out.iw.cl;have:=HN.out;omega);have HE:Hid (tW w wr X t pt d T (.slice ca n V) z n (fZ X (.slice ca n V) c f) f c (cs.map (lU o),mz o l)):=by
    have h1:=HJ.out.iw;rw[e]at h1;exact⟨h1,HN.out,ag.out.1,ag.out.2.1,HJ.out.mQ,dB.refl _ _⟩
   clear e F;go_wp2_with fail
   clear x3 Y;go_loopw [8] (fun i wr=>∃(j:Nat) (C:List eE),j<=n/\i= .int .i64 (j:Int)/\Hid (tW w wr X t pt d T (.slice ca n V) z n (fZ X (.slice ca n V) c f) f C (sy t pt d j (cs.map (lU o),mz o l)))) (fun i _=>n-(intOf i).toNat)
   case atStart=>exact⟨0,c,cG _,rfl,HE⟩
   case round=>
    obtain⟨j,C,hj,rfl,D⟩:=hrel;have F:=D.out.iw.eC;unfold DW at F;have x3:=cn F 3;simp at x3;clear F;by_cases aE:j<n
    .have aT:(j:Int)<(n:Int):=by omega
     obtain⟨v,M⟩:∃v,C[j]?=some v:=⟨_,cp (by rw[D.out.ks];exact aE)⟩
     obtain⟨s,g,ar,wa,wc,_,e,_,_,N,hg,_⟩:=D.out.iw.Ec M;rw[D.out.ks]at e;cases e;have am:=cb (HR.out wr C _ _ j v D.out.iw M D.out.bd D.out.di);obtain⟨K,O⟩:∃K,v.K=K:=⟨_,rfl⟩
     rw[O]at hg am;clear M O;go_wp2_with fail
     go_at_call 151;refine am.out.mono ?_;rintro e w3 ⟨rfl,v',b1,b2⟩;have H3:=cb b2;clear b1 b2 am;go_wp2;go_roundw;case rel=>
      refine⟨j+1,C.set j v',by omega,by go_num,?_⟩;have a:=D.out;have b:=H3.out;rw[uH];exact⟨b.iw,b.ks.trans a.ks,b.bd,b.di,a.mQ.trans b.mQ a.sF,a.sF.trans b.sF a.mQ.size⟩
     case measure=>simp[intOf];omega
    .have aU:j=n:=by omega
     subst aU;go_wp2;go_end0;have e:pd t pt d o (cs,l)=sy t pt d j (cs.map (lU o),mz o l):=by
      unfold pd;simp only
      rw[ag.out.2.2]
     rw[e];exact⟨rfl,C,D.out⟩
variable {g pt c o i k m:Nat}{a:List dE×List dS}{s:dS}{r:oc}{cs:List dE}
theorem vj {b:Bool}(d:a.2[o]?=some s)(h:lW a.1 s o= .stop b):kr g pt c o a=if b=true then a else pd g pt c o a:=by
 unfold kr;rw[AA d h]
theorem CZ (b:a.2[o]?=some s)(h:lW a.1 s o= .got i k m r):kr g pt c o a=kr g pt c o (mC g pt c i (zp a.1 i k m r,a.2.set o {s with held:=s.held.drop r.used})):=by
 unfold kr;rw[CX b h]
structure sG (w wr:World)(X sv pt win T:Nat)(cv rv:Value)(n:Nat)(M:List Nat)(vs:List Nat)(o S:Nat)(MF:List dE×List dS)(cis:List eE)(cs:List dE)(ss:List dS)(s:dS):Prop where
 uh:tW w wr X sv pt win T cv rv n M vs cis (cs,ss)
 S_:vs[o]?=some S
 ji:ss[o]?=some s
 up:s.up=true
 MG:kr sv pt win o (cs,ss)=MF
section
variable {w wr w' Wa:World}{X g pt c T n o S:Nat}{l q:Value}{M:List Nat}{d:List eE}{cs:List dE}{p:List Nat}{t:List dS}{s:dS}{f a:List dE×List dS}
theorem tW.below (h:tW w wr X g pt c T l q n M p d a)(hb:Below wr.heap.size wr w'):tW w w' X g pt c T l q n M p d a:=
 ⟨h.iw.below hb,h.ks,h.bd,h.di,h.mQ.trans (eH.dP (M:=[]) hb) (fun b hb=>by cases hb),h.sF⟩
theorem sG.below (h:sG w wr X g pt c T l q n M p o S f d cs t s)(hb:Below wr.heap.size wr w'):sG w w' X g pt c T l q n M p o S f d cs t s:=
 ⟨h.uh.below hb,h.S_,h.ji,h.up,h.MG⟩
theorem sG.eC (h:sG w wr X g pt c T l q n M p o S f d cs t s):wr.heap[S]?=some (tS true s.next (PJ s.held) s.je):=by
 have:=h.uh.iw.ji o S s h.S_ h.ji;rw[h.up]at this;exact this
theorem sG.stop (h:sG w wr X g pt c T l q n M p o S f d cs t s)(a:lW cs s o= .stop true):tW w wr X g pt c T l q n M p d f:=by
 have e:=h.MG;rw[vj h.ji a,cN rfl]at e;rw[<-e];exact h.uh
theorem sG.GO (h:sG w wr X g pt c T l q n M p o S f d cs t s)(i:T+5000<=100000000000)(j:lW cs s o= .stop false):Calls prog 152 #[.pointer (some ⟨X,0,none⟩),.int .i64 (o:Int)] wr fun e w'=>e= .returned (.tuple #[])/\∃b,tW w w' X g pt c T l q n M p b f:=by
 have e:=h.MG;rw[vj h.ji j,cD (by simp)]at e;rw[<-e];refine(KF h.uh.iw h.ji i h.uh.bd h.uh.di).mono ?_;rintro e w' ⟨rfl,b,a⟩;exact⟨rfl,b,a.iw,a.ks.trans h.uh.ks,a.bd,a.di,h.uh.mQ.trans a.mQ h.uh.sF,h.uh.sF.trans a.sF h.uh.mQ.size⟩
theorem sG.got (h:sG w wr X g pt c T l q n M p o S f d cs t s)(hT:T+5000<=100000000000){b:Nat}{v:eE}{u:sH}(I:lW cs s o= .got i k m r)(J:d[i]?=some v)(Z:v.ws[k]?=some u)(hb:u.bs[m]?=some b)(k1:eH [S] wr Wa)(hS:Wa.heap[S]?=some (tS true s.next (PJ (s.held.drop r.used)) s.je)):b≠S/\(∃K A:Nat,Wa.heap[b]?=some (xe K A 0 0 ⟨#[]⟩))/\(∀E,eH [b] Wa E->(∃K A:Nat,E.heap[b]?=some (xe K A 1 r.st r.val))->Calls prog 151 #[.pointer (some ⟨X,0,none⟩),.pointer (some ⟨v.K,0,none⟩)] E fun e w'=>e= .returned (.tuple #[])/\∃C L N s',sG w w' X g pt c T l q n M p o S f C L N s'/\s'.held.length<s.held.length):=by
 obtain⟨g1,g2,g3,F,g5⟩:=At I;obtain⟨j,O,x,e0,z,H,hp⟩:=rQ o r.id cs 0 i k m g3;obtain rfl:i=j:=by omega
 have y:=((h.uh.iw.jV i v O J z).qu k u x Z H).ok m b _ hb hp;have P:=h.eC;have Q:b≠S:=fun e=>by
  rw[e]at y;have R:wr.heap[S]?=some (xe o r.id 0 0 ⟨#[]⟩):=y;rw[P]at R;unfold tS xe at R;simp at R
 obtain⟨a1,a2⟩:=h.uh.iw.se (s':={s with held:=s.held.drop r.used}) h.S_ h.ji k1 (by simp only[h.up];exact hS) (h.uh.iw.nx s (cu h.ji));have U:=(k1.block b (cA y) (by grind)).trans y;refine⟨Q,⟨o,r.id,U⟩,fun E k2 V=>?_⟩;obtain⟨f1,f2,f3,f4,f5,f6⟩:=oM g5;have B:mU cs i k=x.c.kind:=by unfold mU;rw[z];simp only;rw[H]
 have W:tV x.c.kind (.an r.st r.val):=by
  refine⟨by omega,f4,?_⟩;rw[B]at F;unfold vp at F;simp only[fA,cO,cX]at F;rcases F with e|e
  .exact .inr e
  .rw[jC]at e;exact .inl e
 obtain⟨b1,b2⟩:=a1.wy J z Z H hb k2 (p':= .an r.st r.val) V W;have ea:zp cs i k m r=cs.set i {O with qs:=O.qs.set k ⟨x.c,x.ps.set m (.an r.st r.val)⟩}:=by
  unfold zp;rw[z];simp only
  unfold MM;rw[H]
 have Y:=h.uh.bd.an i k m o r h.ji (s.held.drop r.used);rw[<-ea]at b1;refine(tw b1 J hT Y (by rw[ea];exact h.uh.di.set z rfl)).mono ?_;rintro e w' ⟨rfl,v',_,a⟩;have hg:=CZ (g:=g) (pt:=pt) (c:=c) (a:=(cs,t)) h.ji I;obtain⟨s',c1,c2,c3,c4⟩:=Qg (l:=g) (pt:=pt) (d:=c) (c:=(cs,t)) h.ji I;have D:=a2.trans b2 (fun b hb=> .inl hb);refine⟨rfl,_,(mC g pt c i (zp cs i k m r,t.set o {s with held:=s.held.drop r.used})).1,(mC g pt c i (zp cs i k m r,t.set o {s with held:=s.held.drop r.used})).2,s',⟨⟨a.iw,a.ks.trans h.uh.ks,a.bd,a.di,?_,?_⟩,h.S_,c1,c3.trans h.up,?_⟩,c4⟩
 .exact h.uh.mQ.trans (D.trans a.mQ (fun b hb=> .inl hb)) h.uh.sF
 .exact h.uh.sF.trans ((dB.refl _ _).trans a.sF D.size) h.uh.mQ.size
 .rw[<-h.MG,hg]
end
def OZ (w:World)(S:Nat):Nat:=match w.cell? ⟨S,2,none⟩with
 |some (.string b)=>b.size
 |_=>0
theorem sG.hv {w wr:World}{X T n S:Nat}{l q:Value}{M:List Nat}{d:List eE}{p:List Nat}{t:List dS}{f:List dE×List dS}(h:sG w wr X g pt c T l q n M p o S f d cs t s):OZ wr S=s.held.length:=by
 have a:=h.eC;have b:wr.cell? ⟨S,2,none⟩=some (.string (PJ s.held)):=cn a 2;unfold OZ;rw[b];exact lr _
theorem EE (h:s.held.length<7):lW cs s o= .stop true:=by
 have e:lV s.held=(none,true):=by unfold lV;rw[cN h]
 unfold lW;rw[e]
theorem JZ (h:¬s.held.length<7)(hb:ep s.held 0≠2\/2<ep s.held 1\/ep s.held 2≠0\/40<dM s.held 3):lW cs s o= .stop false:=by
 have e:lV s.held=(none,false):=by unfold lV;rw[cD h,cN hb]
 unfold lW;rw[e]
theorem Ro (h:¬s.held.length<7)(hb:¬(ep s.held 0≠2\/2<ep s.held 1\/ep s.held 2≠0\/40<dM s.held 3))(a:s.held.length<7+dM s.held 3):lW cs s o= .stop true:=by
 have e:lV s.held=(none,true):=by unfold lV;rw[cD h,cD hb,cN a]
 unfold lW;rw[e]
def uo (l:List UInt8):oc:=⟨ep l 1,dM l 5,bytesOf l 7 (dM l 3),7+dM l 3⟩
theorem Rm (h:¬s.held.length<7)(hb:¬(ep s.held 0≠2\/2<ep s.held 1\/ep s.held 2≠0\/40<dM s.held 3))(c:¬s.held.length<7+dM s.held 3):lW cs s o=match mR o (dM s.held 5) cs 0 with
 |none=> .stop false
 |some (i,k,m)=>if dM s.held 3=0\/(mU cs i k=1/\ep s.held 1=0)then .got i k m (uo s.held)else .stop false:=by
 have e:lV s.held=(some (uo s.held),true):=by unfold lV;rw[cD h,cD hb,cD c];rfl
 unfold lW
 rw[e]
 show(match mR o (dM s.held 5) cs 0 with
  |none=>HO.stop false
  |some (i,k,m)=>if vp (mU cs i k) (uo s.held)=true then .got i k m (uo s.held)else .stop false)=_
 cases mR o (dM s.held 5) cs 0 with
 |none=>rfl
 |some t=>
  obtain⟨i,k,m⟩:=t;simp only
  have b:vp (mU cs i k) (uo s.held)=true↔dM s.held 3=0\/(mU cs i k=1/\ep s.held 1=0):=by
   unfold vp;simp only[fA,cO,cX]
   have:(uo s.held).val.toList.isEmpty=true↔dM s.held 3=0:=by
    rw[jC,List.isEmpty_iff];show((s.held.drop 7).take (dM s.held 3)).toArray.toList=[]↔_;rw[List.toList_toArray,<-dw,fh,fR];omega
   rw[this];exact Or.comm
  by_cases a:vp (mU cs i k) (uo s.held)=true
  .rw[cN a,cN (b.1 a)]
  .rw[cD a,cD (fun e=>a (b.2 e))]
end Go.Proofs.YtlonjggfnleolaaGreatDoor
