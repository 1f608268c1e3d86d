import Derived.Test.YtlonjggfnleolaaGreatDoorTells
import Derived.Test.YtlonjggfnleolaaGreatDoorOwnH
import Derived.Deep.AppendSrc
import Derived.Conc.SmallLaws
import Derived.Carry
set_option linter.unusedVariables false
set_option maxHeartbeats 4000000
set_option maxRecDepth 100000
namespace Go.Proofs.YtlonjggfnleolaaGreatDoor
open Go.RowKit Go.Shelf Go.Conc Go.Proofs.Tryz
def qP (w:World)(C:Nat):Nat:=match w.cell? ⟨C,2,none⟩with|some (.slice _ n _)=>n|_=>0
variable {h b a l v:Int}{x:Nat×Int}
def Ci (h:Int)(x:Nat×Int)(b a l v:Int):Prop:=
 0<=l/\ -1<=b/\(0<=b->(x.1:Int)=b/\x.2=a-h/\h<=a/\a<4294967296)/\(b<0->(x.1:Int)=l/\x.2=v-h+4294967296/\0<=v/\v<h)
def ML (h:Int)(c:Prop)(x:Nat×Int)(b a l v:Int):Prop:=
 (c/\b= -1/\l= -1/\x=(0,sJ h 0 0))\/(¬c/\Ci h x b a l v)
theorem QU (h:Int)(s p:Nat)(a:0<=h)(b:h<4294967296):(h<=num (pt s p).data.toList/\sJ h s p=num (pt s p).data.toList-h)\/(num (pt s p).data.toList<h/\sJ h s p=num (pt s p).data.toList-h+4294967296):=by
 have:=yG (pt s p).data.toList;unfold sJ;omega
theorem Ox (s p:Nat)(c:Prop)(i:0<=h)(j:h<4294967296)(k:c->s=0/\p=0)(R:ML h c x b a l v)(d e g v':Int)(hb:(h<=num (pt s p).data.toList/\(b<0\/num (pt s p).data.toList<a)/\d=s/\e=num (pt s p).data.toList)\/(¬(h<=num (pt s p).data.toList/\(b<0\/num (pt s p).data.toList<a))/\d=b/\e=a))(n:((l<0\/num (pt s p).data.toList<v)/\g=s/\v'=num (pt s p).data.toList)\/(¬(l<0\/num (pt s p).data.toList<v)/\g=l/\v'=v)):Ci h (sA h s p x) d e g v':=by
 have o:=yG (pt s p).data.toList;have q:=QU h s p i j;rcases R with⟨f,rfl,rfl,rfl⟩|⟨f,r,t,u,w⟩
 .obtain⟨rfl,rfl⟩:=k f;have m:sA h 0 0 (0,sJ h 0 0)=(0,sJ h 0 0):=by unfold sA;rw[cD (by simp)]
  rw[m];unfold Ci;refine⟨?_,?_,?_,?_⟩<;>omega
 .unfold Ci sA;split
  .refine⟨?_,?_,?_,?_⟩<;>omega
  .refine⟨?_,?_,?_,?_⟩<;>omega
theorem ML.out {c:Prop}(R:ML h c x b a l v)(d:¬c):Ci h x b a l v:=by
 rcases R with⟨f,_⟩|⟨_,r⟩
 .exact absurd f d
 .exact r
theorem vE (S P:Nat)(c:ByteArray)(w:World)(hS:1<=S)(V:S<=4)(hP:1<=P)(W:P<=16)(X:c.size<=maxLen):Calls prog 138 #[.int .i64 S,.int .i64 P,.string c] w fun e w'=>e= .returned (.int .i64 (fE S P c))/\∃q,w'=w.drewN q:=by
 have u:=yG c.data.toList;obtain⟨y,z⟩:=u;have HO:Hid (fE S P c=(kR (num c.data.toList) P S).1):=by show _=_;rfl
 go_enter func138,ntmps138;go_wp2_with fail
 go_at_call 164;refine(CK c _ X).mono ?_;rintro e w' ⟨rfl,rfl⟩;generalize num c.data.toList=d at*;go_wp2;go_loopw [8,9,10,11,12] (fun A B C D i wr=>∃k:Nat,k<=S/\i= .int .i64 k/\(∃q,wr=w'.drewN q)/\∃b a l v:Int,A= .int .i64 b/\B= .int .i64 a/\C= .int .i64 l/\D= .int .i64 v/\ML d (k=0) (kR d P k) b a l v) (fun _ _ _ _ i _=>S-(intOf i).toNat)
 case atStart=>exact⟨0,cG _,rfl,⟨0,rfl⟩,-1,0,-1,0,rfl,rfl,rfl,rfl,.inl ⟨rfl,rfl,rfl,rfl⟩⟩
 case round=>
  obtain⟨k,Y,rfl,⟨q,rfl⟩,b,a,l,v,rfl,rfl,rfl,rfl,t⟩:=hrel;by_cases Z:k<S
  .generalize M:kR d P k=x at*;have HX:Hid (kR d P k=x):=M;clear M;have E:Hid (ML d (k=0/\(0:Nat)=0) (mA d k x 0) b a l v):=by
    show ML d (k=0/\(0:Nat)=0) x b a l v;simpa using t
   clear t;go_wp2;go_loopw [8,9,10,11,13] (fun A B C D i wr=>∃j:Nat,j<=P/\i= .int .i64 j/\(∃q,wr=w'.drewN q)/\∃b a l v:Int,A= .int .i64 b/\B= .int .i64 a/\C= .int .i64 l/\D= .int .i64 v/\Hid (ML d (k=0/\j=0) (mA d k x j) b a l v)) (fun _ _ _ _ i _=>P-(intOf i).toNat)
   case atStart=>exact⟨0,cG _,rfl,⟨_,rfl⟩,b,a,l,v,rfl,rfl,rfl,rfl,(by have h0:=E.out;show ML _ _ _ _ _ _ _;simpa using h0)⟩
   case round=>
    obtain⟨j,aa,rfl,⟨q2,rfl⟩,b,a,l,v,rfl,rfl,rfl,rfl,g⟩:=hrel;by_cases ab:j<P
    .have hz:=Rh k j;have F:(pt k j).size<=maxLen:=by unfold maxLen;omega
     have d1:=fT k;have d2:=fT j;have hn:=yG (pt k j).data.toList;obtain⟨ac,ad⟩:=hn;have N:=fun h m o p u hl=>Ox k j (k=0/\j=0) y z (fun f=>f) g.out h m o p u hl
     have H:Hid (∀h m o p:Int,((d<=num (pt k j).data.toList/\(b<0\/num (pt k j).data.toList<a)/\h=k/\m=num (pt k j).data.toList)\/(¬(d<=num (pt k j).data.toList/\(b<0\/num (pt k j).data.toList<a))/\h=b/\m=a))->(((l<0\/num (pt k j).data.toList<v)/\o=k/\p=num (pt k j).data.toList)\/(¬(l<0\/num (pt k j).data.toList<v)/\o=l/\p=v))->Ci d (mA d k x (j+1)) h m o p):=N;clear N g;go_wp2_with fail
     go_at_call 142;refine(mu k _ (by omega)).mono ?_;rintro e O ⟨rfl,q3,rfl⟩;go_wp2_with fail
     go_at_call 142;refine(mu j _ (by omega)).mono ?_;rintro e O ⟨rfl,q4,rfl⟩;go_wp2_with fail
     go_at_call 164;refine(CK (pt k j) _ F).mono ?_;rintro e O ⟨rfl,I⟩;subst I;generalize num (pt k j).data.toList=n at*;go_wp2;all_goals go_roundw
     all_goals first
      |(refine⟨j+1,by omega,by go_num,⟨_,rfl⟩,_,_,_,_,rfl,rfl,rfl,rfl,?_⟩;exact Or.inr ⟨by omega,H.out _ _ _ _ (by omega) (by omega)⟩)
      |(simp[intOf];omega)
    .have J:j=P:=by omega
     subst J;have r:=g.out.out (by omega);have K:Hid (Ci d (kR d j (k+1)) b a l v):=by
      show Ci _ _ _ _ _ _;simp only[kR,HX.out]
      exact r
     clear r g;go_wp2;go_roundw;case rel=>exact⟨k+1,by omega,by go_num,⟨_,rfl⟩,b,a,l,v,rfl,rfl,rfl,rfl,Or.inr ⟨by omega,K.out⟩⟩
     case measure=>simp[intOf];omega
  .have L:k=S:=by omega
   subst L;obtain⟨r1,r2,Q,R⟩:=t.out (by omega);have T:Hid ((fE k P c:Int)=if b<0 then l else b):=by
    show _=_;rw[HO.out];split
    .exact(R (by omega)).1
    .exact(Q (by omega)).1
   clear r1 r2 Q R t;by_cases s:b<0
   .go_wp2;go_ret;exact⟨pY (by rw[T.out,cN s]),_,rfl⟩
   .have U:¬b<0:=s;go_wp2;go_ret;exact⟨pY (by rw[T.out,cD (by omega)]),_,rfl⟩
variable {d:Int}{a:List UInt8}{t:iC}
structure Lc (d:Int)(c:iO):Prop where
 NG:(fp c.kind c.keys c.val=true/\c.word=eY/\c.fatal=false/\(d=2->c.keys.length=1))\/(c.kind=4/\c.keys=[]/\c.val=eY/\1<=c.word.size)
 line:c.fatal=true->d≠1
theorem nJ {a:ByteArray}{b:Bool}(h:1<=a.size)(c:b=true->d≠1):Lc d (fj a b):=⟨.inr ⟨rfl,rfl,rfl,h⟩,c⟩
theorem uR (a:List UInt8)(i k:Nat):(bytesOf a i k).size<=k:=by
 show(List.take k (List.drop i a)).toArray.size<=k;simp;omega
theorem Bl (a:List UInt8)(i:Nat):bytesOf a i 0=eY:=by simp[bytesOf,eY]
theorem uV:eY.toList.isEmpty=true:=by decide+kernel
theorem Ag {s a:ByteArray}(b:iX s=true)(c:a.size<=40):fp 2 [s] a=true:=by
 have:(a.size:Int)<=40:=by omega
 simp[fp,gR,eF,b,this]
theorem Sp (h:uN a=some t):Lc 2 t.c:=by
 unfold uN at h;split at h
 .cases h
 .split at h
  .cases h;exact nJ (by decide) (fun _=>by decide)
  .rename_i f;split at h
   .cases h
   .split at h
    .cases h;exact nJ (by decide) (fun _=>by decide)
    .rename_i g;cases h;have b:iX (bytesOf a 7 (ep a 2))=true:=by grind
     have c:iR a=true:=by grind
     simp only[iR,cO,fA,cX]at c;obtain⟨⟨⟨⟨⟨_,i⟩,j⟩,_⟩,_⟩,k⟩:=c;refine⟨.inl ⟨?_,rfl,rfl,fun _=>rfl⟩,fun h=>(by cases h)⟩;show fp (ep a 1:Int) [bytesOf a 7 (ep a 2)] (bytesOf a (7+ep a 2) (dM a 3))=true;have l:=uR a (7+ep a 2) (dM a 3);by_cases d:ep a 1=2
     .rw[d];exact Ag b (by omega)
     .have e:dM a 3=0:=by omega
      rw[e,Bl];rcases(show ep a 1=1\/ep a 1=3 by omega)with h|h
      .rw[h];simp[fp,gR,eF,b,uV]
      .rw[h];simp[fp,gR,eF,b,uV]
theorem NQ {c:Nat}{d:ByteArray}{b:Nat}(e:iX d=true)(h:sE a c d b=some t):Lc 1 t.c:=by
 unfold sE at h;split at h
 .cases h;exact nJ (by decide) (fun h=>by cases h)
 .split at h
  .cases h
  .split at h
   .cases h;exact nJ (by decide) (fun h=>by cases h)
   .cases h;have f:=uR a c b;exact⟨.inl ⟨Ag (a:=bytesOf a c b) e (by omega),rfl,rfl,fun h=>(by cases h)⟩,fun h=>(by cases h)⟩
theorem Og (h:vO a=some t):Lc 1 t.c:=by
 unfold vO at h;split at h
 .unfold ph at h;split at h
  .rename_i d b;refine NQ ?_ h;unfold iZ at b;split at b
   .rename_i c;exact c.2.2
   .cases b
  .split at h
   .cases h;exact nJ (by decide) (fun h=>by cases h)
   .rename_i c;cases h;rw[not_or]at c;exact⟨.inl ⟨by simp_all,rfl,rfl,fun h=>(by cases h)⟩,fun h=>(by cases h)⟩
 .split at h
  .cases h;exact nJ (by decide) (fun h=>by cases h)
  .cases h
theorem RO (g:d≠1)(e:d≠2)(a:List ByteArray)(b:Nat):Lc d (gE a b).c:=by
 unfold gE;simp only
 generalize (if gj (a.getD 0 eY)=2 then(if(a.drop 1).length=2 then(a.drop 1).take 1 else [])else a.drop 1)=c;generalize (if gj (a.getD 0 eY)=2/\(a.drop 1).length=2 then(a.drop 1).getD 1 eY else eY)=f;generalize gj (a.getD 0 eY)=k;cases i:fp k c f with
 |true=>exact⟨.inl ⟨i,rfl,rfl,fun h=>absurd h e⟩,fun h=>(by cases h)⟩
 |false=>exact nJ (by decide) (fun _=>g)
theorem Oj (c:d≠1)(b:d≠2)(h:zq a=some t):Lc d t.c:=by
 unfold zq at h;simp only at h;split at h
 .cases h;exact nJ (by decide) (fun _=>c)
 .split at h
  .cases h
  .cases h;exact RO c b _ _
theorem xG (h:fw d a=some t):Lc d t.c:=by
 unfold fw at h;split at h
 .rename_i b;subst b;exact Og h
 .split at h
  .rename_i c;subst c;exact Sp h
  .rename_i b c;exact Oj b c h
structure Told (d:Int)(cs:List iO)(s:St):Prop where
 ok:∀c∈cs,Lc d c
 last:∀i c,cs[i]?=some c->c.fatal=true->i+1=cs.length/\s.held=[]
theorem Em (d:Int):∀(n:Nat) (s:St),s.held.length<=n->Told d (iP d s).1 (iP d s).2:=by
 intro n;induction n with
 |zero=>
  intro s f;have g:s.held=[]:=dw.1 (by omega);have a:fw d s.held=none:=by rw[g,nO]
  rw[mw a];exact⟨fun c h=>(by cases h),fun i c h=>(by simp at h)⟩
 |succ n j=>
  intro s f;cases a:fw d s.held with
  |none=>rw[mw a];exact⟨fun c h=>(by cases h),fun i c h=>(by simp at h)⟩
  |some t=>
   have p:=jc a;have I:=j (fm s t) (by omega);rw[qJ a];refine⟨fun c h=>?_,fun i c h b=>?_⟩
   .rcases cQ.1 h with h|h
    .rw[h];exact xG a
    .exact I.ok c h
   .cases i with
    |zero=>
     have e:t.c=c:=by grind
     have k:fm s t=⟨[],false,true⟩:=by unfold fm;rw[e,b];rfl
     have l:iP d (fm s t)=([],⟨[],false,true⟩):=by rw[k];exact mw (nO d)
     simp[l]
    |succ i=>
     have m:(iP d (fm s t)).1[i]?=some c:=by grind
     obtain⟨q,o⟩:=I.last i c m b;exact⟨by simp;omega,o⟩
variable {d:Int}{g:List UInt8}{t:iC}
theorem DS {c:iO}(h:Cg c)(a:c.keys=[]):(qW d c).data.toList.length<=1000:=by
 have b:=(h.fG a).2;show(qW d c).size<=1000;unfold qW;split
 .unfold oV;rw[cD (by decide),cD (by decide),cD (by decide),cR,cR];show 5+c.word.size+1<=1000;omega
 .split
  .unfold gO;decide
  .unfold oW;rw[cD (by decide),cD (by decide),cD (by decide),cR,cR];show 1+c.word.size+1<=1000;omega
theorem xC {k:Int}{f:List ByteArray}{e:ByteArray}(h:fp k f e=true):(k=1\/k=2\/k=3)/\1<=f.length/\f.length<=4/\(∀x∈f,x.size<=8)/\e.size<=40:=by
 have d:∀(m:Int),m<=4->gR f m=true->1<=f.length/\f.length<=4/\∀x∈f,x.size<=8:=fun m n i=>by
  unfold gR eF at i;simp only[cO,cX,jN]at i;refine⟨by omega,by omega,fun x j=>?_⟩;have:=i.2 x j;unfold iX eF at this;simp only[cO,cX]at this;omega
 have g:e.toList.isEmpty=true->e.size<=40:=fun l=>by
  rw[rO l];decide
 unfold fp at h;split at h
 .simp only[cO]at h;obtain⟨a,b,c⟩:=d 4 (by omega) h.1;exact⟨.inl ‹_›,a,b,c,g h.2⟩
 .split at h
  .simp only[cO,cX]at h;obtain⟨a,b,c⟩:=d 1 (by omega) h.1;exact⟨.inr (.inl ‹_›),a,b,c,by omega⟩
  .split at h
   .simp only[cO]at h;obtain⟨a,b,c⟩:=d 1 (by omega) h.1;exact⟨.inr (.inr ‹_›),a,b,c,g h.2⟩
   .cases h
theorem FC (a:List ByteArray)(b:Nat):(gE a b).c.word.size<=8/\0<=(gE a b).c.id/\(gE a b).c.id<=65535:=by
 unfold gE;simp only
 generalize (if gj (a.getD 0 eY)=2 then(if(a.drop 1).length=2 then(a.drop 1).take 1 else [])else a.drop 1)=c;generalize (if gj (a.getD 0 eY)=2/\(a.drop 1).length=2 then(a.drop 1).getD 1 eY else eY)=d;generalize gj (a.getD 0 eY)=k;cases e:fp k c d with
 |true=>exact⟨(by show eY.size<=8;decide),qF _,(by simp_all)⟩
 |false=>exact⟨(by show iG.size<=8;decide),qF _,(by show(0:Int)<=65535;omega)⟩
theorem Is (h:fw d g=some t):t.c.word.size<=8/\0<=t.c.id/\t.c.id<=65535:=by
 have a:∀(b:ByteArray) (f:Bool),b.size<=8->(fj b f).word.size<=8/\0<=(fj b f).id/\(fj b f).id<=65535:=fun b f e=>⟨e,qF _,(by show(0:Int)<=65535;omega)⟩
 have c:eY.size<=8:=by decide
 unfold fw at h;split at h
 .unfold vO at h;split at h
  .unfold ph at h;split at h
   .unfold sE at h;split at h
    .cases h;exact a _ _ (by decide)
    .split at h
     .cases h
     .split at h
      .cases h;exact a _ _ (by decide)
      .cases h;exact⟨c,qF _,(by grind)⟩
   .split at h
    .cases h;exact a _ _ (by decide)
    .cases h;exact⟨c,qF _,(by simp_all)⟩
  .split at h
   .cases h;exact a _ _ (by decide)
   .cases h
 .split at h
  .unfold uN at h;split at h
   .cases h
   .split at h
    .cases h;exact a _ _ (by decide)
    .split at h
     .cases h
     .split at h
      .cases h;exact a _ _ (by decide)
      .cases h;have i:=fL g 5;have j:=fL g (5+1);refine⟨c,?_,?_⟩
       .show(0:Int)<=((dM g 5:Nat):Int);omega
       .show((dM g 5:Nat):Int)<=65535;have:dM g 5<=65535:=by unfold dM;omega
        omega
  .unfold zq at h;simp only at h;split at h
   .cases h;exact a _ _ (by decide)
   .split at h
    .cases h
    .cases h;exact FC _ _
theorem uF (h:fw d g=some t):Cg t.c:=by
 obtain⟨n,f,i⟩:=Is h;rcases(xG h).NG with⟨j,_⟩|⟨j,l,o,_⟩
 .obtain⟨k,a,b,c,e⟩:=xC j;exact⟨b,c,e,f,i,fun m=>by simp_all,fun _=>k⟩
 .refine⟨by rw[l];simp,by rw[l];simp,by rw[o];decide,f,i,fun _=>⟨j,n⟩,fun m=>absurd l m⟩
theorem Av (X C q:Nat)(p:Value)(c:Option Addr)(d:Nat)(k:Int)(a f:ByteArray)(g:Bool)(b n:Int)(h j:Bool)(l m:Value)(w:World)(o:w.heap[q]?=some (sx k (.slice c 0 d) a f g b n h j l m)):Calls prog 91 #[.pointer (some ⟨X,0,none⟩),.pointer (some ⟨C,0,none⟩),.pointer (some ⟨q,0,none⟩)] w fun e w'=>e= .returned (.tuple #[])/\w'=w:=by
 have r:=cn o 1;go_enter func91,ntmps91;go_wp2_with fail
 go_loopw [15] (fun i wr=>i= .int .i64 0/\wr=w) (fun _ _=>0)
 case atStart=>exact⟨rfl,rfl⟩
 case round=>
  go_wp2;go_end0;exact⟨rfl,rfl⟩
variable {w:World}{M A B:List Nat}
theorem dB.app {w':World}{a c:List Nat}(h:dB w M (A++B))(f:w.heap.size<=w'.heap.size)(d:dB w' A a)(hb:dB w' B c):dB w M (a++c):=fun b e=>by
 rcases cr.1 e with h1|h1
 .rcases d b h1 with h2|h2
  .exact h b (cr.2 (.inl h2))
  .exact .inr (by omega)
 .rcases hb b h1 with h2|h2
  .exact h b (cr.2 (.inr h2))
  .exact .inr (by omega)
theorem dB.left (h:dB w M (A++B)):dB w M A:=fun b a=>h b (cr.2 (.inl a))
def NZ (a:Value)(w:World)(R:Nat):Nat:=match a with| .bool true=>tM w R+1|_=>0
structure Jh (W:World)(X sv pt win g sc:Nat)(cv:Value)(cis:List gU)(cs:List xJ)(vs:List ud)(ss:List sI):Prop where
 eC:W.heap[X]?=some (CQ sv pt win cv (.slice (some ⟨g,0,none⟩) sv sc))
 gb:∃Zg,W.heap[g]?=some (.cells Zg 137 (0,0))/\∀(j:Nat) (u:ud),vs[j]?=some u->Zg[j]?=some (.pointer (some ⟨u.S,0,none⟩))
 len:vs.length=sv
 s1:1<=sv
 s4:sv<=4
 Re:sv<=sc
 yM:pt<=16
 row:W.ownsRow 0 116 1 cv cis.length (cis.map (fun v=>dC v.C))
 cl:cis.length=cs.length
 jV:∀(i:Nat) (v:gU) (s:xJ),cis[i]?=some v->cs[i]?=some s->FH W win v s
 cap:∀(i j:Nat) (v u:gU),i≠j->cis[i]?=some v->cis[j]?=some u->∀b∈v.cM,b∉u.cM
 ji:qG W vs ss
 ap:∀(i:Nat) (v:gU),cis[i]?=some v->∀b∈v.cM,b∉rk vs
def FQ (X:Nat)(b:Value)(a:List gU)(c:List ud):List Nat:=X::(b.ownBlock.toList++((a.map gU.cM).flatten++rk c))
theorem Cl (F:Nat)(hF:F=56\/F=60)(a:Option Addr)(n c:Nat)(k:Int)(w:World)(b:n<=1000000)(h:k<0\/(n:Int)<=k):Calls prog F #[.slice a n c,.int .i64 k] w fun e w'=>e= .returned (.tuple #[.pointer none,.int .i64 1])/\w'=w:=by
 rcases hF with rfl|rfl
 .rcases h with h|h
  .go_wp2;go_ret2;exact⟨rfl,rfl⟩
  .go_wp2;go_ret2;exact⟨rfl,rfl⟩
 .rcases h with h|h
  .go_wp2;go_ret2;exact⟨rfl,rfl⟩
  .have d:¬k<0:=by omega
   go_wp2;go_ret2;exact⟨rfl,rfl⟩
theorem vS (F:Nat)(hF:F=56\/F=60)(g n c k b:Nat)(w:World)(a:n<=1000000)(h:k<n)(d:w.cell? ⟨g,k,none⟩=some (.pointer (some ⟨b,0,none⟩)))(f:g<w.heap.size):Calls prog F #[.slice (some ⟨g,0,none⟩) n c,.int .i64 (k:Int)] w fun e w'=>e= .returned (.tuple #[.pointer (some ⟨b,0,none⟩),.int .i64 0])/\w'=w:=by
 have i:¬(k:Int)<0:=by omega
 rcases hF with rfl|rfl
 .go_wp2;go_ret2;exact⟨rfl,rfl⟩
 .go_wp2;go_ret2;exact⟨rfl,rfl⟩
variable {w:World}{v:Value}{b:List Value}{a:Act}{P:Program}{o:Oper}{Q:Exit->Act->World->Prop}
def gW (w:World)(e:TypeId)(v:Value)(b:List Value):Prop:=
 (v= .slice none 0 0/\b=[])\/∃(g a c:Nat) (d:Array Value),v= .slice (some ⟨g,a,none⟩) b.length c/\w.heap[g]?=some (.cells d e (0,0))/\b.length<=c/\a+c<=d.size/\∀(i:Nat) (x:Value),b[i]?=some x->d[a+i]?=some x
theorem gW.other {w':World}{e:TypeId}(h:gW w e v b)(k:∀g,v.ownBlock=some g->w'.heap[g]?=w.heap[g]?):gW w' e v b:=by
 rcases h with h|⟨g,a,c,d,rfl,f,i⟩
 .exact .inl h
 .exact .inr ⟨g,a,c,d,rfl,(k g rfl).trans f,i⟩
theorem gW.eC {e:TypeId}(h:gW w e v b){g:Nat}(c:v.ownBlock=some g):∃a,w.heap[g]?=some (.cells a e (0,0)):=by
 rcases h with⟨rfl,_⟩|⟨j,d,f,a,rfl,i,_⟩
 .cases c
 .cases c;exact⟨a,i⟩
theorem gW.len {e:TypeId}(h:gW w e v b):∃a c,v= .slice a b.length c:=by
 rcases h with⟨rfl,d⟩|⟨j,f,g,i,rfl,_⟩
 .exact⟨none,0,by rw[d];rfl⟩
 .exact⟨_,_,rfl⟩
theorem gW.tail {e:TypeId}{x:Value}{a:Addr}{c:Nat}(h:gW w e (.slice (some a) (b.length+1) c) (x::b)):gW w e (.slice (some ⟨a.block,a.off+1,none⟩) b.length (c-1)) b:=by
 rcases h with⟨h,_⟩|⟨g,d,j,f,h,k,l,n,m⟩
 .cases h
 .cases h;simp only[dc]at l;refine .inr ⟨g,d+1,c-1,f,rfl,k,by omega,by omega,fun i y o=>?_⟩;have:=m (i+1) y (by simp_all);rw[show d+1+i=d+(i+1)by omega];exact this
theorem yZ (w:World)(t s e:TypeId)(i:TypeInfo)(z:Value)(C:P.underlying t=some (.slice e))(K:P.info? e=some i)(O:i.zero=some z)(D:z.cells.size=1)(E:i.size=1)(hb:i.bytes=8)(v:Value)(b:List Value)(q:gW w e v b)(o:Addr)(c:Nat)(u:Value)(Q:w.cell? o=some u)(R:u.oneCell'=true)(W:b.length<=1000000):∃v' w',(Builtin.append_ #[t,t] s #[v,.slice (some o) 1 c]).run P w= .ok v' w'/\gW w' e v' (b++[u])/\eH v.ownBlock.toList w w'/\(v'.ownBlock=v.ownBlock\/v'.ownBlock=some w.heap.size):=by
 have m:Src P i.size t (.slice (some o) 1 c) 1 [u] w:=Src.ofSlice w C o 1 c [u] (by rw[E];rfl) (fun j y f=>by
  cases j with
  |zero=>
   simp at f;subst f;exact Q
  |succ j=>simp at f) (fun y f=>by simp_all)
 have n:∀(base:Option Addr) (d:Nat),v= .slice base b.length d->d<b.length+1->(∀(j:Nat) (y:Value),b[j]?=some y->∃a,base=some a/\w.cell? (a.add j)=some y)->∃v' w',(Builtin.append_ #[t,t] s #[v,.slice (some o) 1 c]).run P w= .ok v' w'/\gW w' e v' (b++[u])/\eH v.ownBlock.toList w w'/\(v'.ownBlock=v.ownBlock\/v'.ownBlock=some w.heap.size):=fun base d S L r=>by
  have k:(Builtin.firstCells i.size b.length (.slice base b.length d)).run P w.drew= .ok b.toArray w.drew:=by
   cases base with
   |none=>
    have T:b=[]:=by
     cases b with
     |nil=>rfl
     |cons y X=>obtain⟨a,U,_⟩:=r 0 y rfl;cases U
    subst T;exact run_firstCells_none w.drew i.size 0 0 d
   |some a=>
    exact run_firstCells_some w.drew i.size b.length a b.length d b (by simp_all) (fun j y f=>by simp_all)
  have M:=nextslicecap_le (need:=b.length+1) (old:=d) L;have x:=run_append_grow_src (P:=P) w t t s e i z C K O base b.length d b k (.slice (some o) 1 c) 1 [u] m L (by omega) (by grind);rw[<-S]at x;have V:=grownCap_ge w (b.length+1) d e;refine⟨_,_,x,.inr ⟨w.heap.size,0,grownCap w (b.length+1) d e,_,by simp,fD rfl,by grind,?_,fun j y f=>?_⟩,?_,.inr rfl⟩
  .simp[Builtin.zeroCells,D];omega
  .have A:=(cq.1 f).1;rw[PO (by grind)];simpa using f
  .exact eH.dP ((ct _ w).drew.alloc (PC _) _)
 rcases q with⟨rfl,rfl⟩|⟨g,h,l,F,rfl,B,Y,Z,N⟩
 .exact n none 0 rfl (by simp) (fun j y f=>by simp at f)
 .by_cases p:b.length+1<=l
  .have H:=fun j=>cn B j
   have x:=run_append_room_src (P:=P) w t t s e i C K g h b.length l (.slice (some o) 1 c) 1 [u] m p (fun j A=>by grind) (fun j A=>dN B _)
   refine⟨_,_,x,.inr ⟨g,h,l,F.set! (h+b.length) u,by simp,?_,by grind,by grind,fun j y f=>?_⟩,?_,.inl rfl⟩
   .rw[E,PZ];exact dh B u
   .by_cases A:j<b.length
    .rw[cW A]at f;have:=N j y f;rw[pJ,dK (by omega)];exact this
    .have I:=(cq.1 f).1;simp at I;have J:j=b.length:=by omega
     subst J;rw[dg (PC _)]at f;simp at f;subst f;rw[pJ,Array.getElem?_setIfInBounds_self];simp;omega
   .rw[E,PZ];exact(eH.refl _ w).set (.inl (by simp[Value.ownBlock])) u
  .exact n (some ⟨g,h,none⟩) l rfl (by omega) (fun j y f=>⟨_,rfl,by
    rw[show(⟨g,h,none⟩:Addr).add j=⟨g,h+j,none⟩from by unfold Addr.add;simp];rw[cn B];exact N j y f⟩)
theorem zW {P:Program}(w:World){a:Act}{K:Act->World->Prop}{Q:Exit->Act->World->Prop}(s x:Operand)(t:TypeId)(q:o.op= .call {callee:= .builtin .append,args:=#[s,x],argTypes:=#[t,t]})(e:TypeId)(i:TypeInfo)(z:Value)(r:P.underlying t=some (.slice e))(y:P.info? e=some i)(A:i.zero=some z)(j:z.cells.size=1)(k:i.size=1)(hb:i.bytes=8)(v:Value)(b:List Value)(B:a.eval s=v)(g:gW w e v b)(l:Addr)(c:Nat)(u:Value)(C:a.eval x= .slice (some l) 1 c)(D:w.cell? l=some u)(m:u.oneCell'=true)(E:b.length<=1000000)(h:∀d f w',gW w' e (.slice d (b.length+1) f) (b++[u])->eH v.ownBlock.toList w w'->((Value.slice d (b.length+1) f).ownBlock=v.ownBlock\/(Value.slice d (b.length+1) f).ownBlock=some w.heap.size)->K (a.put o.dst (.slice d (b.length+1) f)) w'):Oper.wp P o a w K Q:=by
 obtain⟨J,w',F,n,H,I⟩:=yZ (P:=P) w t o.type e i z r y A j k hb v b g l c u D m E;obtain⟨d,f,p⟩:=n.len;rw[cI,fu]at p;subst p;unfold Oper.wp execOp;simp only[q,resolve,invoke,builtin,od,oe,kj,kK,eu,iI,B,C,F]
 exact h d f w' n H I
theorem vL {P:Program}(w:World){g:Array Oper}{rest:List Oper}{a:Act}{Q:Exit->Act->World->Prop}(k:o.guard=none)(s x:Operand)(t:TypeId)
 (q:o.op= .call {callee:= .builtin .append,args:=#[s,x],argTypes:=#[t,t]})
 (e:TypeId) (i:TypeInfo) (z:Value) (r:P.underlying t=some (.slice e)) (y:P.info? e=some i) (A:i.zero=some z) (l:z.cells.size=1) (m:i.size=1) (hb:i.bytes=8)
 (v:Value) (b:List Value) (B:a.eval s=v) (j:gW w e v b) (n:Addr) (c:Nat) (u:Value) (C:a.eval x= .slice (some n) 1 c) (D:w.cell? n=some u) (p:u.oneCell'=true) (E:b.length<=1000000)
 (h:∀d f w',gW w' e (.slice d (b.length+1) f) (b++[u])->eH v.ownBlock.toList w w'->((Value.slice d (b.length+1) f).ownBlock=v.ownBlock\/(Value.slice d (b.length+1) f).ownBlock=some w.heap.size)->wpList P g Q rest (a.put o.dst (.slice d (b.length+1) f)) w'):wpList P g Q (o::rest) a w:=
 sj k fun _ F=>zW w s x t q e i z r y A l m hb v b B j n c u C D p E fun d f w' H I J=>F _ _ (h d f w' H I J)
variable {w:World}{n:Nat}{v:Value}{b:List Value}
def DW (b pt a:Int)(c d:Value):Obj:= .cells #[.int .i64 b,.int .i64 pt,.int .i64 a,c,d] 240 (0,0)
def Df (d:Int)(Y:Nat)(b:Value)(a:List UInt8):Obj:= .cells #[.int .i64 d,.pointer (some ⟨Y,0,none⟩),b,.string (PJ a)] 247 (0,0)
def tS (d:Bool)(a:Int)(c:ByteArray)(b:List UInt8):Obj:= .cells #[.bool d,.int .i64 a,.string c,.string (PJ b)] 243 (0,0)
def Rb (c:iO)(a b:Value):Obj:= .cells #[.int .i64 c.kind,a,.string c.val,.string c.word,.bool c.fatal,.int .i64 c.id,b] 266 (0,0)
def xe (o id b:Int)(c:Int)(a:ByteArray):Obj:= .cells #[.int .i64 o,.int .i64 id,.int .i64 b,.int .i64 c,.string a] 253 (0,0)
structure MK where
 B:Nat
 o:Nat
 id:Nat
structure DY where
 B:Nat
 kv:Value
 pv:Value
 ps:List MK
structure Ji where
 K:Nat
 Y:Nat
 wv:Value
 ws:List DY
structure Ll (W:World)(ss:List sI)(p:MK):Prop where
 eC:∃kd val,W.heap[p.B]?=some (xe p.o p.id 0 kd val)
 lt:∃s,ss[p.o]?=some s/\p.id<s.next
structure Lm (W:World)(ss:List sI)(c:iO)(v:DY):Prop where
 eC:W.heap[v.B]?=some (Rb c v.kv v.pv)
 row:W.ownsRow 0 249 1 v.pv v.ps.length (v.ps.map (fun p=>dC p.B))
 len:v.ps.length=c.keys.length
 ok:∀p∈v.ps,Ll W ss p
 kn:c.keys=[]->∃ka kc,v.kv= .slice ka 0 kc/\((∃b o,ka=some ⟨b,o,none⟩/\b<v.B)\/kc=0)
structure Nd (W:World)(ss:List sI)(v:Ji)(s:xJ):Prop where
 eC:W.heap[v.K]?=some (Df s.d v.Y v.wv s.told)
 rd:iU W v.Y s.d s.st
 row:gW W 263 v.wv (v.ws.map (fun u=>dC u.B))
 len:v.ws.length=s.waits.length
 ok:∀(i:Nat) (u:DY) (c:iO),v.ws[i]?=some u->s.waits[i]?=some c->Lm W ss c u/\Lc s.d c
structure Jj (W:World)(X sv pt win:Nat)(cv rv:Value)(cis:List Ji)(cs:List xJ)(vs:List Nat)(ss:List sI):Prop where
 eC:W.heap[X]?=some (DW sv pt win cv rv)
 rh:W.ownsRow 0 244 1 cv cis.length (cis.map (fun v=>dC v.K))
 ub:W.ownsRow 0 241 1 rv vs.length (vs.map dC)
 len:vs.length=sv
 sl:ss.length=sv
 s1:1<=sv
 s4:sv<=4
 yM:pt<=16
 cl:cis.length=cs.length
 jV:∀(i:Nat) (v:Ji) (s:xJ),cis[i]?=some v->cs[i]?=some s->Nd W ss v s
 ji:∀(j:Nat) (S:Nat) (s:sI),vs[j]?=some S->ss[j]?=some s->∃inn,W.heap[S]?=some (tS true s.next inn s.je)
theorem jr {e:TypeId}(h:w.ownsRow 0 e 1 v n b):∃a c,v= .slice a n c:=by
 rcases h.2 with⟨e,d⟩|⟨i,f,g,e,_⟩
 .exact⟨_,_,by rw[e,d]⟩
 .exact⟨_,_,e⟩
theorem pE {e:TypeId}(h:w.ownsRow 0 e 1 v n b)(o:b.length=n){i:Nat}{x:Value}(f:b[i]?=some x):∃g c,v= .slice (some ⟨g,0,none⟩) n c/\g<w.heap.size/\w.cell? ⟨g,i,none⟩=some x:=by
 have p:=(cq.1 f).1;rcases h.2 with⟨e,q⟩|⟨l,a,d,e,_,j,r,_,_,m⟩
 .omega
 .refine⟨l,a,e,cA j,?_⟩;rw[cn j i];have k:(d.toList.take (n*1))[i]?=b[i]?:=by rw[m]
  rw[dx (by omega),f]at k;simpa using k
variable {a:List Nat}{W c:World}
def iT (a:List Nat)(W c:World):Prop:=∀(b T:Nat) (Z:Array Value) (f:Nat×Nat),W.heap[b]?=some (.cells Z T f)->T∈a->c.heap[b]?=W.heap[b]?
theorem iT.sub {d:List Nat}(h:iT a W c)(e:∀t∈d,t∈a):iT d W c:=fun b T Z f g i=>h b T Z f g (e T i)
theorem iT.trans {A B C:World}(h:iT a A B)(k:iT a B C):iT a A C:=fun b T Z f c d=>by
 have e:=h b T Z f c d
 exact(k b T Z f (e.trans c) d).trans e
theorem iT.below (h:Below W.heap.size W c):iT a W c:=fun b T Z f d _=>h.block b (cA d)
theorem iT.mQ {M:List Nat}(h:eH M W c)(e:∀(b T:Nat) (Z:Array Value) (f:Nat×Nat),b∈M->W.heap[b]?=some (.cells Z T f)->T∉a):iT a W c:=fun b T Z f d g=>h.block b (cA d) (fun i=>e b T Z f i d g)
theorem iT.row (h:iT a W c){e:Nat}(f:e∈a){n:Nat}{v:Value}{b:List Value}(d:W.ownsRow 0 e 1 v n b):c.ownsRow 0 e 1 v n b:=dR d (fun g i=>by obtain⟨j,k⟩:=cZ d i;exact h g e _ _ k f)
variable {d:Int}{a:List UInt8}{t:iC}
theorem Rx (a:List ByteArray)(b:Nat):lv (gE a b).c.word=true\/(gE a b).c.word=eY:=by
 unfold gE;simp only
 generalize (if gj (a.getD 0 eY)=2 then(if(a.drop 1).length=2 then(a.drop 1).take 1 else [])else a.drop 1)=c;generalize (if gj (a.getD 0 eY)=2/\(a.drop 1).length=2 then(a.drop 1).getD 1 eY else eY)=d;generalize gj (a.getD 0 eY)=k;cases e:fp k c d with
 |true=>exact .inr rfl
 |false=>exact .inl (by show lv iG=true;decide)
theorem KA (h:fw d a=some t):lv t.c.word=true\/t.c.word=eY:=by
 have c:∀(b:ByteArray) (f:Bool),lv b=true->lv (fj b f).word=true\/(fj b f).word=eY:=fun b f e=> .inl e
 unfold fw at h;split at h
 .unfold vO at h;split at h
  .unfold ph at h;split at h
   .unfold sE at h;split at h
    .cases h;exact c _ _ (by decide)
    .split at h
     .cases h
     .split at h
      .cases h;exact c _ _ (by decide)
      .cases h;exact .inr rfl
   .split at h
    .cases h;exact c _ _ (by decide)
    .cases h;exact .inr rfl
  .split at h
   .cases h;exact c _ _ (by decide)
   .cases h
 .split at h
  .unfold uN at h;split at h
   .cases h
   .split at h
    .cases h;exact c _ _ (by decide)
    .split at h
     .cases h
     .split at h
      .cases h;exact c _ _ (by decide)
      .cases h;exact .inr rfl
  .unfold zq at h;simp only at h;split at h
   .cases h;exact c _ _ (by decide)
   .split at h
    .cases h
    .cases h;exact Rx _ _
structure OL (d:Int)(c:iO):Prop where
 cm:Cg c
 ok:Lc d c
 wd:c.keys=[]->lv c.word=true
theorem yP (h:fw d a=some t):OL d t.c:=
 ⟨uF h,xG h,fun c=>by
  rcases KA h with h1|h1
  .exact h1
  .rcases(xG h).NG with⟨b,_⟩|⟨_,_,_,b⟩
   .have:=(xC b).2.1;rw[c]at this;simp at this
   .rw[h1]at b;exact absurd b (by decide)⟩
theorem JG {k:Int}{d:List ByteArray}{c a:ByteArray}(h:fp k d c=true)(j:a∈d):fp k [a] c=true:=by
 have b:∀m:Int,1<=m->gR d m=true->gR [a] m=true:=fun m l g=>by
  unfold gR at g⊢;rw[cO,jN]at g;rw[cO];refine⟨?_,by grind⟩;unfold eF;simp;omega
 unfold fp at h⊢;split at h
 .rename_i e;rw[cN e];rw[cO]at h⊢;exact⟨b 4 (by omega) h.1,h.2⟩
 .rename_i e;rw[cD e];split at h
  .rename_i f;rw[cN f];rw[cO]at h⊢;exact⟨b 1 (by omega) h.1,h.2⟩
  .rename_i f;rw[cD f];split at h
   .rename_i i;rw[cN i];rw[cO]at h⊢;exact⟨b 1 (by omega) h.1,h.2⟩
   .cases h
variable {W a:World}{D t c:Nat}{s:St}{d:Value}
def jk (w w':World):Prop:=∀(b:Nat) (Z:Array Value),w.heap[b]?=some (.cells Z 95 (0,0))->w'.heap[b]?=some (.cells Z 95 (0,0))
theorem jk.trans {a b c:World}(h:jk a b)(k:jk b c):jk a c:=fun x Z d=>k x Z (h x Z d)
theorem jk.dP {w w':World}(h:Below w.heap.size w w'):jk w w':=fun b Z a=>(h.block b (cA a)).trans a
structure vN where
 P:Nat
 D:Nat
 hb:Option Nat
 Y:Nat
 d:Int
 s:St
structure DZ (W:World)(lo:Nat)(r:vN):Prop where
 pair:W.heap[r.P]?=some (.cells #[.pointer (some ⟨r.D,0,none⟩),.pointer (some ⟨r.Y,0,none⟩)] 193 (0,0))
 rd:PD W r.D r.hb (uL r.d) r.s
 rf:iU W r.Y r.d r.s
 di:r.d=1\/r.d=2\/r.d=3
 Sr:lo<=r.D
 Oa:lo<=r.Y
 Ss:∀b,r.hb=some b->lo<=b
structure nF (W:World)(lo:Nat)(rv:Value)(rs:List vN):Prop where
 row:Row W lo 151 1 rv rs.length (rs.map fun r=> .pointer (some ⟨r.P,0,none⟩))
 all:∀r∈rs,DZ W lo r
 apart:∀(i j:Nat) (ri rj:vN),i≠j->rs[i]?=some ri->rs[j]?=some rj->ri.D≠rj.D/\ri.Y≠rj.Y/\∀b,ri.hb=some b->rj.hb≠some b
theorem PD.MY {b:Nat}(R:PD W D (some b) t s):∃Z,W.heap[b]?=some (.cells Z 5 (0,0)):=by
 obtain⟨⟨v,u,i,⟨⟨d,⟨j,e⟩,k⟩,a⟩,_⟩,_⟩:=R;rcases e with⟨rfl,_⟩|⟨g,f,c,rfl,_,h,_⟩
 .cases a
 .cases a;exact⟨c,h⟩
theorem PD.dO {hb:Option Nat}(R:PD W D hb t s):∃Z,W.heap[D]?=some (.cells Z 134 (0,0)):=by
 obtain⟨⟨v,u,a,_⟩,_⟩:=R;exact⟨_,a⟩
theorem DZ.keep {r:vN}(h:DZ W c r)(k:∀(b:Nat) (Z:Array Value) (T:Nat),W.heap[b]?=some (.cells Z T (0,0))->(T=193\/T=134\/T=5\/T=195)->a.heap[b]?=W.heap[b]?):DZ a c r:=by
 refine⟨(k _ _ 193 h.pair (.inl rfl)).trans h.pair,h.rd.other ?_ (fun b f=>?_),⟨(k _ _ 195 h.rf.at_ (.inr (.inr (.inr rfl)))).trans h.rf.at_,h.rf.ok⟩,h.di,h.Sr,h.Oa,h.Ss⟩
 .obtain⟨Z,d⟩:=h.rd.dO;exact k _ Z 134 d (.inr (.inl rfl))
 .have e:=h.rd;rw[f]at e;obtain⟨Z,d⟩:=e.MY;exact k b Z 5 d (.inr (.inr (.inl rfl)))
theorem nF.keep {rs:List vN}(h:nF W c d rs)(k:∀(b:Nat) (Z:Array Value) (T:Nat),W.heap[b]?=some (.cells Z T (0,0))->(T=151\/T=193\/T=134\/T=5\/T=195)->a.heap[b]?=W.heap[b]?):nF a c d rs:=
 ⟨h.row.other (fun g Z _ e _=>k g Z 151 e (.inl rfl)),fun r f=>(h.all r f).keep (fun b Z T e i=>k b Z T e (.inr i)),h.apart⟩
theorem nF.below {rs:List vN}(h:nF W c d rs)(hb:Below W.heap.size W a):nF a c d rs:=h.keep (fun b Z T e _=>hb.block b (cA e))
theorem nF.Pq {W1 F:World}{i:Nat}{rs:List vN}{r:vN}{n:Option Nat}{s':St}(h:nF W c d rs)(H:rs[i]?=some r)(hR:PD W1 r.D n (uL r.d) s')(hF:lN W r.hb n)(I:iV r.D r.hb W W1)(hY:iU F r.Y r.d s')(J:ie r.Y W1 F)(ag:c<=W.heap.size):nF F c d (rs.set i {r with hb:=n,s:=s'}):=by
 have t:=h.all r (cu H);obtain⟨ZD,ac⟩:=t.rd.dO;have v:∀(b:Nat) (o:Obj),W.heap[b]?=some o->b≠r.D->some b≠r.hb->b≠r.Y->F.heap[b]?=some o:=fun b o m h1 h2 h3=>by
  have e1:=(I.block b (cA m) h1 h2).trans m;exact(J.block b (cA e1) h3).trans e1
 have y:∀(b:Nat) (Z:Array Value) (T:Nat),W.heap[b]?=some (.cells Z T (0,0))->T≠195->b≠r.Y:=fun b Z T m I e=>by
  rw[e,t.rf.at_]at m;cases m;exact I rfl
 have z:∀(b:Nat) (Z:Array Value) (T:Nat),W.heap[b]?=some (.cells Z T (0,0))->T≠134->b≠r.D:=fun b Z T m I e=>by simp_all
 have A:∀(b:Nat) (Z:Array Value) (T:Nat),W.heap[b]?=some (.cells Z T (0,0))->T≠5->some b≠r.hb:=fun b Z T m I e=>by
  have p:=t.rd;rw[<-e]at p;obtain⟨Z',l⟩:=p.MY;rw[l]at m;cases m;exact I rfl
 have Q:(rs.set i {r with hb:=n,s:=s'}).length=rs.length:=by simp
 have R:∀b,n=some b->c<=b:=fun b m=>by
  rcases hF with h1|h1|⟨k,h1,h2⟩
  .exact t.Ss b (by grind)
  .rw[h1]at m;cases m
  .rw[h1]at m;cases m;omega
 have S:=h.row.other (fun g Z _ U _=>(v g _ U (z g Z 151 U (by decide)) (A g Z 151 U (by decide)) (y g Z 151 U (by decide))).trans U.symm);have V:(rs.set i {r with hb:=n,s:=s'}).map (fun r=>Value.pointer (some ⟨r.P,0,none⟩))=rs.map fun r=> .pointer (some ⟨r.P,0,none⟩):=by
  rw[PW];apply fS;intro k;rw[dD];by_cases hk:i=k
  .subst hk;have K:i<(rs.map fun r=>Value.pointer (some ⟨r.P,0,none⟩)).length:=by grind
   rw[cN rfl,cN K,cL,H];rfl
  .rw[cD hk]
 have ad:PD F r.D n (uL r.d) s':=by
  obtain⟨ah,u⟩:=hR.dO;have D:=(I.block r.Y (cA t.rf.at_) (fun e=>by have:=t.rf.at_;rw[e,ac]at this;cases this) (fun e=>by
   have p:=t.rd;rw[<-e]at p;obtain⟨Z',l⟩:=p.MY;have:=t.rf.at_;rw[l]at this;unfold mO at this;cases this)).trans t.rf.at_
  refine hR.other (J.block _ (cA u) (fun e=>by rw[e,D]at u;unfold mO at u;cases u)) (fun b m=>?_);have X:=hR;rw[m]at X;obtain⟨Z',l⟩:=X.MY;exact J.block b (cA l) (fun e=>by rw[e,D]at l;unfold mO at l;cases l)
 have Y:DZ F c {r with hb:=n,s:=s'}:=⟨v _ _ t.pair (z _ _ 193 t.pair (by decide)) (A _ _ 193 t.pair (by decide)) (y _ _ 193 t.pair (by decide)),ad,hY,t.di,t.Sr,t.Oa,R⟩
 have L:∀(j:Nat) (q:vN),i≠j->rs[j]?=some q->DZ F c q:=fun j q s w=>by
  obtain⟨O,P,a3⟩:=h.apart i j r q s H w;have f:=h.all q (cu w);obtain⟨Zj,B⟩:=f.rd.dO;refine⟨v _ _ f.pair (z _ _ 193 f.pair (by decide)) (A _ _ 193 f.pair (by decide)) (y _ _ 193 f.pair (by decide)),f.rd.other ((v _ _ B (fun e=>O e.symm) (A _ _ 134 B (by decide)) (y _ _ 134 B (by decide))).trans B.symm) (fun b m=>?_),⟨v _ _ f.rf.at_ (z _ _ 195 f.rf.at_ (by decide)) (A _ _ 195 f.rf.at_ (by decide)) (fun e=>P e.symm),f.rf.ok⟩,f.di,f.Sr,f.Oa,f.Ss⟩;have p:=f.rd;rw[m]at p;obtain⟨Z',l⟩:=p.MY;exact(v b _ l (z _ _ 5 l (by decide)) (fun e=>a3 b e.symm m) (y _ _ 5 l (by decide))).trans l.symm
 have look:∀(j:Nat) (q:vN),(rs.set i {r with hb:=n,s:=s'})[j]?=some q->(i=j/\q={r with hb:=n,s:=s'})\/(i≠j/\rs[j]?=some q):=fun j q w=>by
  rw[dD]at w;by_cases s:i=j
  .subst s;have K:i<rs.length:=(cq.1 H).1;simp[K]at w;exact .inl ⟨rfl,w.symm⟩
  .simp[s]at w;exact .inr ⟨s,w⟩
 have E:∀(j:Nat) (q:vN),i≠j->rs[j]?=some q->∀b,n=some b->q.hb≠some b:=fun j q s w b m e=>by
  obtain⟨O,P,a3⟩:=h.apart i j r q s H w;rcases hF with h1|h1|⟨k,h1,h2⟩
  .exact a3 b (by rw[<-h1];exact m) e
  .rw[h1]at m;cases m
  .rw[h1]at m;cases m;have p:=(h.all q (cu w)).rd;rw[e]at p;obtain⟨Z',l⟩:=p.MY;have:=cA l;omega
 refine⟨by rw[Q,V];exact S,fun q f=>?_,fun a b ra rb aa ha m=>?_⟩
 .obtain⟨j,w,e⟩:=dG.1 f;have ae:(rs.set i {r with hb:=n,s:=s'})[j]?=some q:=by rw[cp w,e]
  rcases look j q ae with⟨_,rfl⟩|⟨s,af⟩
  .exact Y
  .exact L j q s af
 .rcases look a ra ha with⟨ea,rfl⟩|⟨ab,M⟩
  .rcases look b rb m with⟨eb,rfl⟩|⟨N,C⟩
   .exact absurd (ea.symm.trans eb) aa
   .obtain⟨O,P,a3⟩:=h.apart i b r rb N H C;exact⟨O,P,fun x hx=>E b rb N C x hx⟩
  .rcases look b rb m with⟨eb,rfl⟩|⟨N,C⟩
   .obtain⟨O,P,a3⟩:=h.apart a i ra r (fun e=>ab e.symm) M H;exact⟨O,P,fun x hx e=>E a ra ab M x e hx⟩
   .exact h.apart a b ra rb aa M C
theorem rT {W:World}{f:Nat}{a:Option Addr}{n c:Nat}{d:List ByteArray}(h:gV W f (.slice a n c) d):d.length=n/\n<=c/\∀i s,d[i]?=some s->∃g,a=some ⟨g,0,none⟩/\g<W.heap.size/\W.cell? ⟨g,i,none⟩=some (.string s):=by
 rcases h with⟨h,rfl⟩|⟨b,l,h,_,Z,e,m,o,j⟩
 .cases h;exact⟨rfl,PC _,fun i s h=>by simp at h⟩
 .cases h;refine⟨rfl,by omega,fun i s k=>⟨b,rfl,cA e,?_⟩⟩;rw[cn e i];exact j i s k
theorem NU (s:ByteArray):(s.toList==s.toList)=true:=by simp
theorem wW {w:World}{j n c:Nat}{a:Option Addr}{d:List ByteArray}(h:gF w j (.slice a n c) d):d.length=n/\∀(i:Nat) (s:ByteArray),d[i]?=some s->∃g o,a=some ⟨g,o,none⟩/\g<w.heap.size/\w.cell? ⟨g,o+i,none⟩=some (.string s):=by
 rcases h with⟨h,rfl⟩|⟨b,o,m,Z,k,p,f,l⟩
 .cases h;exact⟨rfl,fun i s e=>by simp at e⟩
 .cases k;exact⟨rfl,fun i s e=>⟨b,o,rfl,cA f,(cn f _).trans (l.1 i s e)⟩⟩
theorem CS (k:Int)(h l:Option Addr)(n m o:Nat)(a f:ByteArray)(g:Bool)(id:Int)(c:List ByteArray)(p r:Nat)(w:World)(u:gV w p (.slice h n m) c)(v:gF w r (.slice l n o) c)(N:n<=1000000000000)(O:∀s∈c,s.size<=1000000000000):Calls prog 109 #[db k (.slice h n m) a f g id,db k (.slice l n o) a f g id] w fun e w'=>e= .returned (.bool true)/\Below w.heap.size w w':=by
 obtain⟨x,P,y⟩:=rT u;obtain⟨D,z⟩:=wW v;have A:=cb (cd y z);have E:=cb x;have t:=PE w;clear y z u v x D;unfold db;go_wp2;go_loopw [5] (fun i wr=>∃(j q:Nat),j<=n/\i= .int .i64 j/\wr=((w.alloc (.cells #[.int .i64 k,.slice h n m,.string a,.string f,.bool g,.int .i64 id] 36)).alloc (.cells #[.int .i64 k,.slice l n o,.string a,.string f,.bool g,.int .i64 id] 36)).drewN q) (fun i _=>n-(intOf i).toNat)
 case atStart=>exact⟨0,0,cG _,rfl,rfl⟩
 case round=>
  obtain⟨j,q,Q,rfl,rfl⟩:=hrel;by_cases F:j<n
  .obtain⟨s,b⟩:∃s,c[j]?=some s:=by
    have:=E.out;exact⟨c[j],cp (by omega)⟩
   obtain⟨H,I,J,R⟩:=A.out.1 j s b;obtain⟨K,S,L,M,T⟩:=A.out.2 j s b;subst I;subst L;have d:(j:Int)<(n:Int):=by omega
   have B:H<w.heap.size+1:=by omega
   have C:K<w.heap.size+1:=by omega
   clear b;go_wp2;go_quiet (fail)
   go_wp2;go_roundw;case rel=>exact⟨j+1,_,by omega,by go_num,rfl⟩
   case measure=>simp[intOf];omega
  .have d:¬(j:Int)<(n:Int):=by omega
   go_wp2;go_ret;exact⟨rfl,cV (t.out _ _) _⟩
theorem Qj (d:Int)(w:World)(a:d<1\/3<d):Calls prog 43 #[.int .i64 d] w fun e w'=>e= .returned (.tuple #[.pointer none,.int .i64 1])/\Below w.heap.size w w':=by
 go_wp2;go_ret2;exact⟨rfl,ct _ _⟩
def Bf (W:World)(d:Int):World:=((W.alloc (BE (uL d) (.slice none 0 0) 0 false false)).alloc (mO d AU)).alloc (.cells #[.pointer (some ⟨W.heap.size,0,none⟩),.pointer (some ⟨W.heap.size+1,0,none⟩)] 193)
theorem ls {a:Type}{l:List a}{i:Nat}{x:a}(h:l[i]?=some x):l.set i x=l:=by
 apply fS;intro j;rw[dD];split
 .rename_i e;subst e;rw[h];simp[(List.getElem?_eq_some_iff.1 h).1]
 .rfl
theorem LO:∃i,prog.info? 159=some i/\i.bytes=0:=by
 have h:(prog.info? 159).map (·.bytes)=some 0:=by kernel_rfl
 obtain⟨i,a,b⟩:=dX.1 h;exact⟨i,a,b⟩
theorem zA (R a:Nat)(w:World)(f:a<=6):Calls prog 86 #[.pointer (some ⟨R,0,none⟩),.int .i64 (a:Int)] w fun e w'=>e= .returned (.pointer (some ⟨w.heap.size+1,0,none⟩))/\w'=(w.alloc (.chan a #[] false 0 0 false)).alloc (uT R w.heap.size (.slice none 0 0) (.pointer none) (.slice none 0 0)):=by
 have b:∀W:World,(Instr.makeChan 119 (.int .i64 (a:Int))).run prog W= .ok (.chan (some W.heap.size)) (W.alloc (.chan a #[] false 0 0 false)):=fun W=>by
  obtain⟨i,c,d⟩:=LO;exact run_makeChan (P:=prog) (w:=W) underlying119 c .i64 a (by omega) (by rw[d];omega)
 go_wp2;go_ret;exact⟨rfl,rfl⟩
theorem zB (w:World):Calls prog 85 #[] w fun e w'=>e= .returned (.pointer (some ⟨w.heap.size+1,0,none⟩))/\w'=(w.alloc (.map #[] 0)).alloc (zT false 0 w.heap.size (.slice none 0 0) 0 false false (.pointer none) (.slice none 0 0)):=by
 have a:= @run_makeMap prog;go_wp2;go_ret;exact⟨rfl,rfl⟩
theorem LK:∃i,prog.info? 116=some i/\i.zero=some (.pointer none)/\i.size=1/\i.bytes=8:=by
 have h:(prog.info? 116).map (fun i=>(i.zero,i.size,i.bytes))=some (some (.pointer none),1,8):=by kernel_rfl
 obtain⟨i,b,a⟩:=dX.1 h;simp only[gi]at a;exact⟨i,b,a.1,a.2.1,a.2.2⟩
def Kl (C R a t:Nat):gU:=⟨C,R,a,t,none,.slice none 0 0,.pointer none,.slice none 0 0,[]⟩
def Ol (d:Int):xJ:=⟨d,AU,[],[]⟩
theorem FH.new {W:World}{C R e t a:Nat}{d:Int}(g:dT d t)(h:W.heap[R]?=some (BE t (.slice none 0 0) 0 false false))(f:W.heap[e]?=some (.chan a #[] false 0 0 false))(j:W.heap[C]?=some (uT R e (.slice none 0 0) (.pointer none) (.slice none 0 0))):FH W a (Kl C R e t) (Ol d):=
 ⟨j,⟨⟨.slice none 0 0,0,h,⟨⟨[],dv _ _ _ _,PC _,rfl,by simp⟩,rfl⟩,.inl rfl⟩,by simp[Kl]⟩,g,⟨#[],0,0,false,f,rfl⟩,dv _ _ _ _,rfl,fun i q c k _=>(by simp[Kl]at k),.inl rfl,ix.nil _,fun b l=>(by cases l),fun c m=>(by simp[Ol]at m)⟩
variable {W:World}{a:List ud}
def mJ (b pt a:Int):Bool:=qM b pt&&eF 1 a 6
theorem xY (b pt a:Int)(w:World):Calls prog 84 #[.agg #[.int .i64 b,.int .i64 pt,.int .i64 a]] w fun e w'=>e= .returned (.bool (mJ b pt a))/\Below w.heap.size w w':=by
 have f:Hid (∀o,Below w.heap.size w (w.alloc o)):=fun o=>(ct _ _).alloc (PC _) o
 have g:Hid (∀W,Calls prog 49 #[.int .i64 b,.int .i64 pt] W fun e w'=>e= .returned (.bool (qM b pt))/\w'=W):=fun W=>vG b pt W
 have h:Hid (∀W,Calls prog 77 #[.int .i64 a,.int .i64 1,.int .i64 6] W fun e w'=>e= .returned (.bool (eF 1 a 6))/\w'=W):=fun W=>kC a 1 6 W
 unfold mJ;cases j:qM b pt with
 |false=>
  go_enter func84,ntmps84;go_wp2_with fail
  refine(g.out _).mono ?_;rintro e i ⟨rfl,c⟩;go_wp2;go_ret;exact⟨rfl,f.out _⟩
 |true=>
  go_enter func84,ntmps84;go_wp2_with fail
  refine(g.out _).mono ?_;rintro e i ⟨rfl,c⟩;go_wp2_with fail
  refine(h.out _).mono ?_;rintro e k ⟨rfl,d⟩;subst d;go_wp2;go_ret;exact⟨by simp,f.out _⟩
def yE (S m:Nat):ud:=⟨S,m,.slice none 0 0,0,false,false,.pointer none,.slice none 0 0,[]⟩
theorem xk.new {S m:Nat}(b:W.heap[S]?=some (zT false 0 m (.slice none 0 0) 0 false false (.pointer none) (.slice none 0 0)))(c:W.heap[m]?=some (.map #[] 0)):xk W (yE S m) ⟨0,[]⟩:=
 ⟨b,⟨#[],0,c,rfl⟩,fun p a=>(by simp[yE]at a),fun p a=>(by simp[yE]at a),.inl rfl,ix.nil _⟩
theorem qG.snoc {n:World}{r:List sI}(h:qG W a r)(k:∀b∈rk a,n.heap[b]?=W.heap[b]?){v:ud}{s:sI}(y:xk n v s)(t:∀b∈v.cM,W.heap.size<=b):qG n (a++[v]) (r++[s]):=by
 have z:=h.keep k;have hcut:∀(j:Nat) (u:ud),(a++[v])[j]?=some u->(j<a.length/\a[j]?=some u)\/(j=a.length/\u=v):=fun j u w=>by grind
 refine⟨by simp[h.len],fun j u A w g=>?_,fun i j o m p B x b c d=>?_⟩
 .rcases hcut j u w with⟨e,q⟩|⟨e,rfl⟩
  .rw[cW (by rw[<-h.len];exact e)]at g;exact z.ok j u A q g
  .rw[e,h.len,dg (PC _)]at g;simp at g;rw[<-g];exact y
 .rcases hcut i o B with⟨C,l⟩|⟨C,rfl⟩
  .rcases hcut j m x with⟨e,f⟩|⟨e,rfl⟩
   .exact h.ap i j o m p l f b c d
   .have D:=h.old b (oO.2 ⟨i,o,l,c⟩);have E:=t b d;omega
  .rcases hcut j m x with⟨e,f⟩|⟨e,rfl⟩
   .have D:=h.old b (oO.2 ⟨j,m,f,d⟩);have E:=t b c;omega
   .omega
structure ux (w0 W:World)(X:Nat)(sv pt win:Int)(j:Nat)(rv:Value)(vs:List ud):Prop where
 eC:W.heap[X]?=some (CQ sv pt win (.slice none 0 0) rv)
 row:W.ownsRow 0 137 1 rv j (vs.map (fun v=>dC v.S))
 len:vs.length=j
 ji:qG W vs (List.replicate j ⟨0,[]⟩)
 jx:Below w0.heap.size w0 W
 ge:w0.heap.size<=X
 gr:∀b,rv.ownBlock=some b->w0.heap.size<=b
 gs:∀b∈rk vs,w0.heap.size<=b
 fr:∀v∈vs,∃S m,v=yE S m
theorem LL:∃i,prog.info? 137=some i/\i.zero=some (.pointer none)/\i.size=1/\i.bytes=8:=by
 have h:(prog.info? 137).map (fun i=>(i.zero,i.size,i.bytes))=some (some (.pointer none),1,8):=by kernel_rfl
 obtain⟨i,b,a⟩:=dX.1 h;simp only[gi]at a;exact⟨i,b,a.1,a.2.1,a.2.2⟩
theorem ux.more {I l Wa:World}{X j g2 cap2:Nat}{J pt w:Int}{n:Value}(h:ux I W X J pt w j n a)(p:l=(W.drew.alloc (.map #[] 0)).alloc (zT false 0 W.heap.size (.slice none 0 0) 0 false false (.pointer none) (.slice none 0 0)))(m:Wa.ownsRow 0 137 1 (.slice (some ⟨g2,0,none⟩) (j+1) cap2) (j+1) (a.map (fun v=>dC v.S)++[.pointer (some ⟨W.heap.size+1,0,none⟩)]))(c:(l.alloc (.cells #[.pointer (some ⟨W.heap.size+1,0,none⟩)] 137)).grownBy Wa n.ownBlock)(C:n.ownBlock=some g2\/g2=(l.alloc (.cells #[.pointer (some ⟨W.heap.size+1,0,none⟩)] 137)).heap.size):ux I (Wa.setCell ⟨X,4,none⟩ (.slice (some ⟨g2,0,none⟩) (j+1) cap2)) X J pt w (j+1) (.slice (some ⟨g2,0,none⟩) (j+1) cap2) (a++[yE (W.heap.size+1) W.heap.size]):=by
 have q:Below W.heap.size W l:=by rw[p];exact((ct _ W).drew.alloc (PC _) _).alloc (by simp) _
 have r:Below W.heap.size W (l.alloc (.cells #[.pointer (some ⟨W.heap.size+1,0,none⟩)] 137)):=q.alloc q.size _;have K:=q.size;have D:=cA h.eC;have L:∀b,n.ownBlock=some b->b<W.heap.size:=fun b e=>by
  obtain⟨s,g⟩:=cZ h.row e;exact cA g
 have M:n.ownBlock≠some X:=fun e=>by
  obtain⟨s,g⟩:=cZ h.row e;have d:=h.eC;rw[d]at g;cases g
 have x:∀b,b<W.heap.size->n.ownBlock≠some b->b≠X->(Wa.setCell ⟨X,4,none⟩ (.slice (some ⟨g2,0,none⟩) (j+1) cap2)).heap[b]?=W.heap[b]?:=fun b d N O=>(cz Wa ⟨X,4,none⟩ _ b O).trans ((c.block b (by rw[cF];omega) (fun e=>N e.symm)).trans (r.block b d))
 have f:∀(b:Nat) (o:Obj),l.heap[b]?=some o->W.heap.size<=b->(Wa.setCell ⟨X,4,none⟩ (.slice (some ⟨g2,0,none⟩) (j+1) cap2)).heap[b]?=some o:=fun b o d P=>(cz Wa ⟨X,4,none⟩ _ b (by grind)).trans ((c.block b (by rw[cF];have:=cA d;omega) (fun e=>by grind)).trans ((cC _ _ _ (cA d)).trans d))
 have y:=(c.block X (by rw[cF];omega) (fun e=>M e.symm)).trans ((r.block X D).trans h.eC);have E:l.heap[W.heap.size]?=some (.map #[] 0):=by
  rw[p,cC _ _ _ (by simp)];exact du W.drew _
 have F:l.heap[W.heap.size+1]?=some (zT false 0 W.heap.size (.slice none 0 0) 0 false false (.pointer none) (.slice none 0 0)):=by
  rw[p];exact fD (by simp)
 have z:∀b∈(yE (W.heap.size+1) W.heap.size).cM,W.heap.size<=b:=fun b d=>by
  simp[ud.cM,yE,Value.ownBlock]at d;omega
 have H:=h.jx.size;refine⟨dh (i:=4) y _,?_,by simp[h.len],?_,?_,h.ge,fun b d=>?_,fun b d=>?_,fun u hu=>?_⟩
 .rw[dF];exact dR m (fun U Q=>by
   cases Q;refine cz Wa ⟨X,4,none⟩ _ g2 (fun e=>?_);obtain⟨s,g⟩:=cZ m rfl;rw[show g2=X from e,y]at g;cases g)
 .rw[List.replicate_succ'];refine h.ji.snoc (fun b d=>x b (h.ji.old b d) (fun e=>?_) (fun e=>?_)) (xk.new (f _ _ F (by omega)) (f _ _ E (PC _))) z
  .obtain⟨s,g⟩:=cZ h.row e;exact h.ji.apart g (by decide) (by decide) d
  .have A:=h.eC;unfold CQ at A;exact h.ji.apart A (by decide) (by decide) (by rw[<-e];exact d)
 .have k:eH (X::n.ownBlock.toList) W (Wa.setCell ⟨X,4,none⟩ (.slice (some ⟨g2,0,none⟩) (j+1) cap2)):=((eH.dP r).grown c (fun b e=> .inl (by simp[e]))).set (.inl (by simp)) _;exact⟨k.os.trans h.jx.os,k.tape.trans h.jx.tape,k.output.trans h.jx.output,cP H k.size,fun b d=>(k.block b (by omega) (fun R=>by
   rcases cQ.1 R with e|e
   .have:=h.ge;omega
   .have:=h.gr b (lj e);omega)).trans (h.jx.block b d)⟩
 .have S:g2=b:=by simpa [Value.ownBlock]using d
  rcases C with e|e
  .exact h.gr b (by rw[e,S])
  .rw[cF]at e;omega
 .obtain⟨i,u,hu,t⟩:=oO.1 d;by_cases T:i<a.length
  .rw[cW T]at hu;exact h.gs b (oO.2 ⟨i,u,hu,t⟩)
  .rw[dg (by omega)]at hu;have B:=cu hu;simp at B;rw[B]at t;have:=z b t;omega
 .rcases cr.1 hu with hu|hu
  .exact h.fr u hu
  .simp at hu;exact⟨_,_,hu⟩
theorem NC (b pt a:Int)(w:World)(d:mJ b pt a=false):Calls prog 53 #[.agg #[.int .i64 b,.int .i64 pt,.int .i64 a]] w fun e w'=>e= .returned (.tuple #[.pointer none,.int .i64 1])/\Below w.heap.size w w':=by
 have f:Hid (∀W,Calls prog 84 #[.agg #[.int .i64 b,.int .i64 pt,.int .i64 a]] W fun e w'=>e= .returned (.bool false)/\Below W.heap.size W w'):=fun W=>by rw[<-d];exact xY b pt a W
 have g:Hid (∀o W,Below (w.alloc o).heap.size (w.alloc o) W->Below w.heap.size w W):=fun o W h=>((ct _ _).alloc (PC _) o).trans (h.mono (by simp))
 go_enter func53,ntmps53;go_wp2_with fail
 refine(f.out _).mono ?_;rintro e j ⟨rfl,i⟩;have c:=cb (g.out _ _ i);go_wp2;go_ret2;exact⟨rfl,c.out⟩
theorem ux.done {l W:World}{X a pt c:Nat}{q:Value}{k:List ud}(h:ux l W X a pt c a q k)(r:1<=a)(t:a<=4)(w:pt<=16):∃g m,Jh W X a pt c g m (.slice none 0 0) [] [] k (List.replicate a ⟨0,[]⟩)/\l.heap.size<=g/\∀b∈FQ X (.slice none 0 0) [] k,l.heap.size<=b:=by
 rcases h.row.2 with⟨_,B⟩|⟨g,m,d,rfl,_,x,y,_,C,z⟩
 .omega
 .refine⟨g,m,⟨h.eC,⟨d,x,fun j u o=>?_⟩,h.len,r,t,y,w,dv _ _ _ _,rfl,fun i v s f _=>(by simp at f),fun i j v u _ f _=>(by simp at f),h.ji,fun i v f=>(by simp at f)⟩,h.gr g rfl,fun b n=>?_⟩
  .have A:=(cq.1 o).1;rw[h.len]at A;have p:(d.toList.take (a*1))[j]?=(k.map (fun v=>dC v.S))[j]?:=by rw[z]
   rw[dx (by omega),cL,o]at p;simpa [dC]using p
  .unfold FQ at n;simp[Value.ownBlock]at n;rcases n with e|e
   .rw[e];exact h.ge
   .exact h.gs b e
theorem Km (h pt d:Nat)(w:World)(t:mJ h pt d=true)(h1:1<=h)(h4:h<=4)(hp:pt<=16):Calls prog 53 #[.agg #[.int .i64 (h:Int),.int .i64 (pt:Int),.int .i64 (d:Int)]] w fun e w'=>∃X g V p,e= .returned (.tuple #[.pointer (some ⟨X,0,none⟩),.int .i64 0])/\Jh w' X h pt d g V (.slice none 0 0) [] [] p (List.replicate h ⟨0,[]⟩)/\Below w.heap.size w w'/\w.heap.size<=g/\(∀b∈FQ X (.slice none 0 0) [] p,w.heap.size<=b)/\∀v∈p,∃S m,v=yE S m:=by
 have HC:Hid (∀W,Calls prog 84 #[.agg #[.int .i64 (h:Int),.int .i64 (pt:Int),.int .i64 (d:Int)]] W fun e w'=>e= .returned (.bool true)/\Below W.heap.size W w'):=fun W=>by rw[<-t];exact xY h pt d W
 have B:Hid (∀W,Calls prog 85 #[] W fun e w'=>e= .returned (.pointer (some ⟨W.heap.size+1,0,none⟩))/\w'=(W.alloc (.map #[] 0)).alloc (zT false 0 W.heap.size (.slice none 0 0) 0 false false (.pointer none) (.slice none 0 0))):=fun W=>zB W
 obtain⟨i1,hi,C,D,E⟩:=LL;have R:=cb (cd hi (cd C (cd D E)));clear t hi C D E;go_enter func53,ntmps53;go_wp2_with fail
 go_at_call 84;refine(HC.out _).mono ?_;rintro e l ⟨rfl,k⟩;have p0:l.cell? ⟨w.heap.size,0,none⟩=some (.int .i64 (h:Int)):=(k.cell (p:=⟨w.heap.size,0,none⟩) (by simp)).trans (cn (du w _) 0);have p1:l.cell? ⟨w.heap.size,1,none⟩=some (.int .i64 (pt:Int)):=(k.cell (p:=⟨w.heap.size,1,none⟩) (by simp)).trans (cn (du w _) 1);have p2:l.cell? ⟨w.heap.size,2,none⟩=some (.int .i64 (d:Int)):=(k.cell (p:=⟨w.heap.size,2,none⟩) (by simp)).trans (cn (du w _) 2);have ae:w.heap.size<l.heap.size:=cH (by simp) k.size;have af:¬w.heap.size=l.heap.size:=by omega
 have ad:¬l.heap.size=w.heap.size:=by omega
 have F:Below w.heap.size w l:=(cU).trans (k.mono (by simp));have EF:ux w (l.alloc (CQ h pt d (.slice none 0 0) (.slice none 0 0))) l.heap.size h pt d 0 (.slice none 0 0) []:=
  ⟨du l _,dv _ _ _ _,rfl,⟨rfl,fun j v s H _=>(by simp at H),fun i j v u _ H _=>(by simp at H)⟩,F.alloc (by omega) _,by omega,fun b k=>(by cases k),fun b k=>(by simp[rk]at k),fun v H=>(by cases H)⟩
 have I:=cb EF;clear k F EF;unfold CQ at I;go_wp2_with fail
 generalize l.heap.size=X at*;generalize l.alloc (.cells #[.int .i64 (h:Int),.int .i64 (pt:Int),.int .i64 (d:Int),.slice none 0 0,.slice none 0 0] 129)=w2 at*;go_loopw [13] (fun i wr=>∃(j:Nat) (Y:Value) (p:List ud),j<=h/\i= .int .i64 (j:Int)/\Hid (ux w wr X h pt d j Y p)) (fun i _=>h-(intOf i).toNat)
 case atStart=>exact⟨0,_,[],cG _,rfl,I⟩
 case round=>
  obtain⟨j,Y,p,hj,rfl,n⟩:=hrel;by_cases ag:j<h
  .have J:(j:Int)<(h:Int):=by omega
   obtain⟨T,U,rfl⟩:∃a c,Y= .slice a j c:=by
    rcases n.out.row.2 with⟨e,h0⟩|⟨g',ah,K,e,_⟩
    .exact⟨_,_,by rw[e,h0]⟩
    .exact⟨_,_,e⟩
   have c4:=(PG n.out.eC).2.2.2.2.1;have cf:=(PG n.out.eC).2.2.2.2.2 4;have x:=cA n.out.eC;have L:(Value.slice T j U).ownBlock≠some X:=fun e=>by
    obtain⟨K,t⟩:=cZ n.out.row e;have k:=n.out.eC;unfold CQ at k;rw[k]at t;cases t
   have M:=cb L;have N:Hid (∀W,Below wr.heap.size wr W->W.ownsRow 0 137 1 (.slice T j U) j (p.map (fun v=>dC v.S))):=fun W hW=>dR n.out.row (fun gg hg=>by obtain⟨K,t⟩:=cZ n.out.row hg;exact hW.block gg (cA t))
   have ai:IntKind.i64.wrap ((j:Int)+1)=(j:Int)+1:=eM _ (by omega) (by omega);clear L p0 p1 p2;go_wp2_with fail
   go_region_law (first
    |(go_simp;go_at_call 85;refine(B.out _).mono ?_;rintro e y ⟨rfl,z⟩;have o:Below wr.heap.size wr y:=(by rw[z];exact((ct _ wr).drew.alloc (PC _) _).alloc (by simp) _);have A:=cb (cd z o);have e4:=(o.cell (p:=⟨X,4,none⟩) x).trans c4;have ef:=(o.frozen (p:=⟨X,4,none⟩) x).trans cf;have q:=cH x o.size;clear z o)
    |(refine step_append_lies _ (by rfl) _ _ _ (by rfl) 0 137 i1 (.pointer none) 1 8 underlying127 R.out.1 R.out.2.1 R.out.2.2.1 R.out.2.2.2 (by rfl) (by omega) (.slice T j U) j (p.map (fun v=>dC v.S)) (by rfl) (N.out _ (A.out.2.alloc A.out.2.size _)) ⟨y.heap.size,0,none⟩ 1 1 [.pointer (some ⟨wr.heap.size+1,0,none⟩)] (by rfl) (by rfl) (World.news_of_block (cs:=#[.pointer (some ⟨wr.heap.size+1,0,none⟩)]) (du y _)) (fun u hu=>by simp at hu;subst hu;rfl) (by omega) (by unfold maxLen;omega) (by omega) (cG _) _ rfl ?_;intro g2 O Z r f P Q;have aa:Z.cell? ⟨X,4,none⟩=some (.slice T j U):=(f.cell_far ⟨X,4,none⟩ (by simp;omega) (fun e=>M.out e.symm)).trans ((cS (w:=y) (cC y _ _ q)).trans e4);have ab:Z.frozen? ⟨X,4,none⟩=false:=(f.frozen_far ⟨X,4,none⟩ (by simp;omega) (fun e=>M.out e.symm)).trans ((gm (w:=y) (cC y _ _ q)).trans ef);have HG:=cb (cd r (cd f (cd P Q)));clear r f P)
    |fail)
   all_goals
    have HF:=cb (n.out.more A.out.1 HG.out.1 HG.out.2.1 HG.out.2.2.1)
    clear aa ab
    generalize Z.setCell ⟨X,4,none⟩ (.slice (some ⟨g2,0,none⟩) (j+1) O)=wf at*
    go_wp2
    go_roundw
    case rel=>exact⟨j+1,_,_,by omega,by go_num,HF⟩
    case measure=>simp[intOf];omega
  .have ac:j=h:=by omega
   subst ac;have J:¬(j:Int)<(j:Int):=by omega
   obtain⟨g,V,f1,f2,f3⟩:=n.out.done h1 h4 hp;have HF:=cb (cd f1 (cd n.out.jx (cd f2 (cd f3 n.out.fr))));clear f1 f2 f3;go_wp2;go_ret2;exact⟨X,rfl,g,V,p,HF.out⟩
variable {f W:World}{X:Nat}{c:Value}{d:List Nat}
structure oS (w0 W:World)(X:Nat)(sv pt win:Int)(j:Nat)(rv:Value)(vs:List Nat):Prop where
 eC:W.heap[X]?=some (DW sv pt win (.slice none 0 0) rv)
 row:W.ownsRow 0 241 1 rv j (vs.map dC)
 len:vs.length=j
 ji:∀(i S:Nat),vs[i]?=some S->W.heap[S]?=some (tS true 0 ⟨#[]⟩ [])
 jx:Below w0.heap.size w0 W
 ge:w0.heap.size<=X
 gr:∀b,rv.ownBlock=some b->w0.heap.size<=b
 gs:∀b∈vs,w0.heap.size<=b
 nd:vs.Nodup
theorem LQ:∃i,prog.info? 241=some i/\i.zero=some (.pointer none)/\i.size=1/\i.bytes=8:=by
 have h:(prog.info? 241).map (fun i=>(i.zero,i.size,i.bytes))=some (some (.pointer none),1,8):=by kernel_rfl
 obtain⟨i,b,a⟩:=dX.1 h;simp only[gi]at a;exact⟨i,b,a.1,a.2.1,a.2.2⟩
theorem oS.more {Wa:World}{j g2 cap2:Nat}{A pt r:Int}(h:oS f W X A pt r j c d)(m:Wa.ownsRow 0 241 1 (.slice (some ⟨g2,0,none⟩) (j+1) cap2) (j+1) (d.map dC++[.pointer (some ⟨W.heap.size,0,none⟩)]))(g:((W.alloc (tS true 0 ⟨#[]⟩ [])).alloc (.cells #[.pointer (some ⟨W.heap.size,0,none⟩)] 241)).grownBy Wa c.ownBlock)(w:c.ownBlock=some g2\/g2=((W.alloc (tS true 0 ⟨#[]⟩ [])).alloc (.cells #[.pointer (some ⟨W.heap.size,0,none⟩)] 241)).heap.size):oS f (Wa.setCell ⟨X,4,none⟩ (.slice (some ⟨g2,0,none⟩) (j+1) cap2)) X A pt r (j+1) (.slice (some ⟨g2,0,none⟩) (j+1) cap2) (d++[W.heap.size]):=by
 have s:Below W.heap.size W (W.alloc (tS true 0 ⟨#[]⟩ [])):=(ct _ W).alloc (PC _) _;have n:Below W.heap.size W ((W.alloc (tS true 0 ⟨#[]⟩ [])).alloc (.cells #[.pointer (some ⟨W.heap.size,0,none⟩)] 241)):=s.alloc s.size _;have x:=cA h.eC;have B:∀b,c.ownBlock=some b->b<W.heap.size:=fun b e=>by
  obtain⟨o,l⟩:=cZ h.row e;exact cA l
 have C:c.ownBlock≠some X:=fun e=>by
  obtain⟨o,l⟩:=cZ h.row e;have hb:=h.eC;rw[hb]at l;cases l
 have t:∀b,b<W.heap.size->c.ownBlock≠some b->b≠X->(Wa.setCell ⟨X,4,none⟩ (.slice (some ⟨g2,0,none⟩) (j+1) cap2)).heap[b]?=W.heap[b]?:=fun b hb p D=>(cz Wa ⟨X,4,none⟩ _ b D).trans ((g.block b (by rw[cF,cF];omega) (fun e=>p e.symm)).trans (n.block b hb))
 have u:=(g.block X (by rw[cF,cF];omega) (fun e=>C e.symm)).trans ((n.block X x).trans h.eC);have E:(Wa.setCell ⟨X,4,none⟩ (.slice (some ⟨g2,0,none⟩) (j+1) cap2)).heap[W.heap.size]?=some (tS true 0 ⟨#[]⟩ []):=(cz Wa ⟨X,4,none⟩ _ W.heap.size (by grind)).trans ((g.block W.heap.size (by rw[cF,cF];omega) (fun e=>by grind)).trans ((cC _ _ _ (by simp_all)).trans (du W _)));have y:=h.jx.size;refine⟨dh (i:=4) u _,?_,by simp[h.len],fun i S q=>?_,?_,h.ge,fun b hb=>?_,fun b hb=>?_,?_⟩
 .rw[dF];exact dR m (fun L F=>by
   cases F;refine cz Wa ⟨X,4,none⟩ _ g2 (fun e=>?_);obtain⟨o,l⟩:=cZ m rfl;rw[show g2=X from e,u]at l;cases l)
 .by_cases z:i<d.length
  .rw[cW z]at q;have p:=h.ji i S q;refine(t S (cA p) (fun e=>?_) (fun e=>?_)).trans p
   .obtain⟨o,l⟩:=cZ h.row e;rw[p]at l;cases l
   .have hb:=h.eC;unfold tS at p;rw[<-e,p]at hb;cases hb
  .rw[dg (by omega)]at q;have v:=cu q;simp at v;rw[v];exact E
 .have k:eH (X::c.ownBlock.toList) W (Wa.setCell ⟨X,4,none⟩ (.slice (some ⟨g2,0,none⟩) (j+1) cap2)):=((eH.dP n).grown g (fun b e=> .inl (by simp[e]))).set (.inl (by simp)) _;exact⟨k.os.trans h.jx.os,k.tape.trans h.jx.tape,k.output.trans h.jx.output,cP y k.size,fun b hb=>(k.block b (by omega) (fun H=>by
   rcases cQ.1 H with e|e
   .have:=h.ge;omega
   .have:=h.gr b (lj e);omega)).trans (h.jx.block b hb)⟩
 .have I:g2=b:=by simpa [Value.ownBlock]using hb
  rcases w with e|e
  .exact h.gr b (by rw[e,I])
  .rw[cF,cF]at e;omega
 .rcases cr.1 hb with hb|hb
  .exact h.gs b hb
  .simp at hb;omega
 .refine fJ.2 ⟨h.nd,by simp,fun a J b hb e=>?_⟩;simp at hb;obtain⟨i,q,K⟩:=dG.1 J;have:=cA (h.ji i a (by rw[cp q,K]));omega
theorem oS.done {a pt b:Nat}(h:oS f W X a pt b a c d)(g:1<=a)(k:a<=4)(l:pt<=16):Jj W X a pt b (.slice none 0 0) c [] [] d (List.replicate a ⟨0,[]⟩):=
 ⟨h.eC,dv _ _ _ _,by rw[h.len];exact h.row,h.len,by simp,g,k,l,rfl,fun i v s m _=>(by simp at m),fun j S s n o=>by
  have e:=cu o;rw[List.mem_replicate]at e;rw[e.2];exact⟨_,h.ji j S n⟩⟩
theorem Mx (a pt b:Int)(w:World)(g:mJ a pt b=false):Calls prog 111 #[.agg #[.int .i64 a,.int .i64 pt,.int .i64 b]] w fun e w'=>e= .returned (.tuple #[.pointer none,.int .i64 1])/\Below w.heap.size w w':=by
 have j:Hid (∀o,Below w.heap.size w (w.alloc o)):=fun o=>(ct _ _).alloc (PC _) o
 have c:a<1\/(¬a<1/\4<a)\/(¬a<1/\¬4<a/\pt<1)\/(¬a<1/\¬4<a/\¬pt<1/\16<pt)\/(¬a<1/\¬4<a/\¬pt<1/\¬16<pt/\b<1)\/(¬a<1/\¬4<a/\¬pt<1/\¬16<pt/\¬b<1/\6<b):=by
  simp only[mJ,qM,eF,ig,eG]at g;omega
 clear g;rcases c with h|⟨d,h⟩|⟨d,f,h⟩|⟨d,f,i,h⟩|⟨d,f,i,k,h⟩|⟨d,f,i,k,l,h⟩
 all_goals
  go_wp2
  go_ret2
  exact⟨rfl,j.out _⟩
theorem KG (c pt a:Nat)(w:World)(l:mJ c pt a=true):Calls prog 111 #[.agg #[.int .i64 (c:Int),.int .i64 (pt:Int),.int .i64 (a:Int)]] w fun e w'=>∃X r p,e= .returned (.tuple #[.pointer (some ⟨X,0,none⟩),.int .i64 0])/\oS w w' X c pt a c r p/\Jj w' X c pt a (.slice none 0 0) r [] [] p (List.replicate c ⟨0,[]⟩):=by
 simp only[mJ,qM,eF,cO,cX]at l;obtain⟨⟨⟨a1,a2⟩,a3,a4⟩,a5,a6⟩:=l;have b1:¬(c:Int)<1:=by omega
 have b2:¬(4:Int)<c:=by omega
 have b3:¬(pt:Int)<1:=by omega
 have b4:¬(16:Int)<pt:=by omega
 have b5:¬(a:Int)<1:=by omega
 have b6:¬(6:Int)<a:=by omega
 obtain⟨V,P,s,t,v⟩:=LQ;have I:=cb (cd P (cd s (cd t v)));have x:Below w.heap.size w (w.alloc (.cells #[.int .i64 (c:Int),.int .i64 (pt:Int),.int .i64 (a:Int)] 93)):=cU;have EF:oS w ((w.alloc (.cells #[.int .i64 (c:Int),.int .i64 (pt:Int),.int .i64 (a:Int)] 93)).alloc (DW c pt a (.slice none 0 0) (.slice none 0 0))) (w.heap.size+1) c pt a 0 (.slice none 0 0) []:=
  ⟨fD (by simp),dv _ _ _ _,rfl,fun i S W=>(by simp at W),x.alloc (by simp) _,by omega,fun b h=>(by cases h),fun b h=>(by simp at h),List.nodup_nil⟩
 have y:=cb EF;have Q:Hid (((w.alloc (.cells #[.int .i64 (c:Int),.int .i64 (pt:Int),.int .i64 (a:Int)] 93)).alloc (DW c pt a (.slice none 0 0) (.slice none 0 0))).heap[w.heap.size]?=some (.cells #[.int .i64 (c:Int),.int .i64 (pt:Int),.int .i64 (a:Int)] 93 (0,0))):=(cC _ _ _ (by simp)).trans (du w _);clear x EF P s t v;unfold DW at y Q;go_enter func111,ntmps111;go_wp2_with fail
 generalize (w.alloc (.cells #[.int .i64 (c:Int),.int .i64 (pt:Int),.int .i64 (a:Int)] 93)).alloc (.cells #[.int .i64 (c:Int),.int .i64 (pt:Int),.int .i64 (a:Int),.slice none 0 0,.slice none 0 0] 240)=w2 at*;go_loopw [5] (fun i wr=>∃(j:Nat) (r:Value) (p:List Nat),j<=c/\i= .int .i64 (j:Int)/\Hid (oS w wr (w.heap.size+1) c pt a j r p/\wr.heap[w.heap.size]?=some (.cells #[.int .i64 (c:Int),.int .i64 (pt:Int),.int .i64 (a:Int)] 93 (0,0)))) (fun i _=>c-(intOf i).toNat)
 case atStart=>exact⟨0,_,[],cG _,rfl,y.out,Q.out⟩
 case round=>
  obtain⟨j,r,p,hj,rfl,f⟩:=hrel;have Y:=cn f.out.2 0;simp at Y;have L:=cA f.out.2;by_cases Z:j<c
  .have z:(j:Int)<(c:Int):=by omega
   obtain⟨A,B,rfl⟩:=jr f.out.1.row;have h:=f.out.1.eC;unfold DW at h;have R:=cn h 4;simp at R;have cf:=dN h 4;have C:=cA h;have D:(Value.slice A j B).ownBlock≠some (w.heap.size+1):=fun e=>by
    obtain⟨M,l⟩:=cZ f.out.1.row e;rw[h]at l;cases l
   have E:(Value.slice A j B).ownBlock≠some w.heap.size:=fun e=>by
    obtain⟨M,l⟩:=cZ f.out.1.row e;rw[f.out.2]at l;cases l
   have q:=cb (cd D E);have m:Hid (((wr.alloc (tS true 0 ⟨#[]⟩ [])).alloc (.cells #[.pointer (some ⟨wr.heap.size,0,none⟩)] 241)).ownsRow 0 241 1 (.slice A j B) j (p.map dC)):=eA (eA f.out.1.row _) _;have F:=cb (show∀(k:Nat) (u:Value),[Value.pointer (some ⟨wr.heap.size,0,none⟩)][k]?=some u->((wr.alloc (tS true 0 ⟨#[]⟩ [])).alloc (.cells #[.pointer (some ⟨wr.heap.size,0,none⟩)] 241)).cell? ((⟨wr.heap.size+1,0,none⟩:Addr).add k)=some u from World.news_of_block (cs:=#[.pointer (some ⟨wr.heap.size,0,none⟩)]) (fD (by simp)));have aa:IntKind.i64.wrap ((j:Int)+1)=(j:Int)+1:=eM _ (by omega) (by omega);have g:=cb (fun(T n:Nat) (Wa:World)=>f.out.1.more (g2:=T) (cap2:=n) (Wa:=Wa))
   unfold tS PJ at m F g;clear h D E;go_wp2_with (first
    |(at_builtin;refine wpList_append_lies _ rfl _ _ _ rfl 0 241 V (.pointer none) 1 8 underlying238 I.out.1 I.out.2.1 I.out.2.2.1 I.out.2.2.2 rfl (by omega) (.slice A j B) j (p.map dC) rfl m.out ⟨wr.heap.size+1,0,none⟩ 1 1 [.pointer (some ⟨wr.heap.size,0,none⟩)] rfl rfl F.out (by simp[Value.oneCell']) (by omega) (by unfold maxLen;omega) (by omega) (cG _) _ rfl ?_;intro T n J o d H U;have ab:J.cell? ⟨w.heap.size+1,4,none⟩=some (.slice A j B):=(d.cell_far ⟨w.heap.size+1,4,none⟩ (by simp;omega) (fun e=>q.out.1 e.symm)).trans ((cS ((cC _ _ _ (by simp;omega)).trans (cC wr _ _ C))).trans R);have ac:J.frozen? ⟨w.heap.size+1,4,none⟩=false:=(d.frozen_far ⟨w.heap.size+1,4,none⟩ (by simp;omega) (fun e=>q.out.1 e.symm)).trans ((gm ((cC _ _ _ (by simp;omega)).trans (cC wr _ _ C))).trans cf);have K:=cb (cd o (cd d H));clear o d H)
    |fail)
   have N:J.heap[w.heap.size]?=some (.cells #[.int .i64 (c:Int),.int .i64 (pt:Int),.int .i64 (a:Int)] 93 (0,0)):=(K.out.2.1.block w.heap.size (by simp;omega) (fun e=>q.out.2 e.symm)).trans ((cC _ _ _ (by simp;omega)).trans ((cC wr _ _ L).trans f.out.2));refine⟨⟨j+1,_,_,by omega,by go_num,g.out _ _ _ K.out.1 K.out.2.1 K.out.2.2,(cz J ⟨w.heap.size+1,4,none⟩ _ w.heap.size (by show w.heap.size≠w.heap.size+1;omega)).trans N⟩,?_⟩;simp[intOf];omega
  .have O:j=c:=by omega
   subst O;have z:¬(j:Int)<(j:Int):=by omega
   have HF:=cb (cd f.out.1 (f.out.1.done (by omega) (by omega) (by omega)));go_wp2;go_ret2;exact⟨_,rfl,_,_,HF.out⟩
theorem LM:∃i,prog.info? 151=some i/\i.zero=some (.pointer none)/\i.size=1/\i.bytes=8:=by
 have h:(prog.info? 151).map (fun i=>(i.zero,i.size,i.bytes))=some (some (.pointer none),1,8):=by kernel_rfl
 cases a:prog.info? 151 with
 |none=>rw[a]at h;cases h
 |some i=>
  rw[a]at h;simp only[gP,iJ,gi]at h;exact⟨i,rfl,h.1,h.2.1,h.2.2⟩
theorem qp (n:Int)(w:World):Calls prog 99 #[.int .i64 n] w fun e w'=>e= .returned (.int .i64 n)/\w'=w:=by
 go_wp2;go_ret;exact⟨rfl,rfl⟩
theorem Ek (p:Value)(d:Int)(w:World)(c:d<1\/3<d):Calls prog 67 #[p,.int .i64 d] w fun e w'=>e= .returned (.bool true)/\Below w.heap.size w w':=by
 have f:=cb (Qj d w c);have g:=cb (fun W=>zM d W c);go_enter func67,ntmps67;go_wp2_with fail
 refine f.out.mono ?_;rintro e j ⟨rfl,a⟩;have h:=cb a;go_wp2_with (first|(refine(g.out _).mono ?_;rintro e i ⟨rfl,b⟩;subst b)|(refine(qp _ _).mono ?_;rintro e i ⟨rfl,b⟩;subst b))
 all_goals go_ret
 all_goals exact⟨rfl,h.out⟩
variable {W g:World}{e i b j D t Y:Nat}{v:Value}{cs:List iO}{a:Option Addr}{c:iO}{hb:Option Nat}{d:Int}{s f:St}
theorem CA (d:Int):∀(n:Nat) (s:St),s.held.length<=n->(iP d s).1.length+(iP d s).2.held.length<=s.held.length:=by
 intro n;induction n with
 |zero=>
  intro s h;have b:s.held=[]:=dw.1 (by omega);rw[mw (by rw[b,nO])];simp
 |succ n c=>
  intro s h;cases a:fw d s.held with
  |none=>rw[mw a];simp
  |some t=>
   have e:=jc a;have:=c (fm s t) (by omega);rw[qJ a];simp only[dc]
   omega
theorem yc (d:Int)(s:St)(p:ByteArray):(PU d s p.data.toList).1.length+(PU d s p.data.toList).2.held.length<=s.held.length+p.size:=by
 have b:=CA d _ (jL s p.data.toList) (PC _);have a:=wG s p.data.toList;rw[gz]at a;unfold PU;omega
theorem GQ (d:Int)(s:St)(p:List UInt8):∀c∈(PU d s p).1,c.keys.length<=4/\∀k∈c.keys,k.size<=8:=by
 intro c b;rcases((Em d _ (jL s p) (PC _)).ok c b).NG with⟨e,_⟩|⟨_,f,_⟩
 .have A:=QR e;exact⟨A.yu,fun k a=>(yp (A.keys k a)).2⟩
 .rw[f];exact⟨by simp,fun k a=>by cases a⟩
theorem Af:∀(cs:List iO) (a:List Value) (j:Nat) (c:iO) (b:Value),cs[j]?=some c->a[j]?=some b->∀k,k<6->(gx cs a)[j*6+k]?=(vT c b)[k]?:=by
 intro cs;induction cs with
 |nil=>intro a j c b h;simp at h
 |cons x cs g=>
  intro a j c b f d k i;cases a with
  |nil=>simp at d
  |cons y a=>
   have l:(vT x y).toList.length=6:=rfl;cases j with
   |zero=>
    simp only[kJ,iJ]at f d;subst f d;simp only[gx,Nat.zero_mul,eB]
    rw[cW (by omega)];simp
   |succ j=>
    simp only[gx]
    rw[dg (by omega),l];have e:(j+1)*6+k-6=j*6+k:=by omega
    rw[e];exact g a j c b f d k i
theorem Cp (h:DX W e v cs):∃a c,v= .slice a cs.length c:=by
 obtain⟨d,_,⟨_,f⟩,_⟩:=h;rcases f with⟨b,i⟩|⟨g,j,k,b,_⟩
 .exact⟨none,0,by rw[b,i]⟩
 .exact⟨_,_,b⟩
theorem Gx (h:DX W e (.slice a i b) cs)(p:cs[j]?=some c):∃g m n o,a=some ⟨g,0,none⟩/\g<W.heap.size/\i<=b/\gV W e (.slice m n o) c.keys/\∀k,k<6->W.cell? ⟨g,j*6+k,none⟩=(vT c (.slice m n o))[k]?:=by
 obtain⟨f,E,⟨F,t⟩,u,v⟩:=h;have H:=(cq.1 p).1;obtain⟨q,d⟩:∃q,f[j]?=some q:=⟨_,cp (by omega)⟩
 obtain⟨m,n,o,rfl⟩:=u q (cu d);rcases t with⟨_,I⟩|⟨g,w,x,y,z,l,A,B,C,r⟩
 .omega
 .cases y;refine⟨g,m,n,o,rfl,cA l,by omega,v j c _ p d,fun k D=>?_⟩;rw[<-Af cs f j c _ p d k D,<-r,cn l];have s:j*6+k<cs.length*6:=by omega
  rw[dx s];simp
theorem ln.at_ (h:ln W e (.slice a i b) cs)(p:cs[j]?=some c):∃g m n o,a=some ⟨g,0,none⟩/\g<W.heap.size/\i<=b/\gF W e (.slice m n o) c.keys/\∀k,k<6->W.cell? ⟨g,j*6+k,none⟩=(vT c (.slice m n o))[k]?:=by
 obtain⟨f,E,⟨F,t⟩,u,v⟩:=h;have H:=(cq.1 p).1;obtain⟨q,d⟩:∃q,f[j]?=some q:=⟨_,cp (by omega)⟩
 obtain⟨m,n,o,rfl⟩:=u q (cu d);rcases t with⟨_,I⟩|⟨g,w,x,y,z,l,A,B,C,r⟩
 .omega
 .cases y;refine⟨g,m,n,o,rfl,cA l,by omega,v j c _ p d,fun k D=>?_⟩;rw[<-Af cs f j c _ p d k D,<-r,cn l];have s:j*6+k<cs.length*6:=by omega
  rw[dx s];simp
theorem ln.form (h:ln W e v cs):∃a c,v= .slice a cs.length c:=by
 obtain⟨d,_,⟨_,f⟩,_⟩:=h;rcases f with⟨b,i⟩|⟨g,j,k,b,_⟩
 .exact⟨none,0,by rw[b,i]⟩
 .exact⟨_,_,b⟩
theorem iU.Sh (a:iU W Y d f)(c:PD W D hb t s)(e:iV D hb W g):iU g Y d f:=by
 have b:=c.apart (Z:=#[.int .i64 d,.string (PJ f.held),.bool f.pass,.bool f.closed]) a.at_ (by decide) (by decide);exact⟨(e.block Y (cA a.at_) b.1 b.2).trans a.at_,a.ok⟩
theorem Gs {h:World}(j:iU W Y d f)(k:PD W D hb t s)(l:iV D hb W g)(a:ie Y g h){b T:Nat}{Z:Array Value}(hb:W.heap[b]?=some (.cells Z T (0,0)))(m:T≠134)(n:T≠5)(o:T≠195):g.heap[b]?=some (.cells Z T (0,0))/\h.heap[b]?=some (.cells Z T (0,0)):=by
 have i:=k.apart hb m n;have c:=(l.block b (cA hb) i.1 i.2).trans hb;exact⟨c,(a.block b (cA c) (fun e=>by have:=j.at_;rw[<-e,hb]at this;cases this;exact o rfl)).trans c⟩
theorem AM (p:Value)(f:Nat)(r:vN)(b g:Int)(h:Value)(c i:ByteArray)(j:Bool)(d k:Int)(l m:Value)(n:ByteArray)(t u g2:Int)(s:ByteArray)(x y:Int)(w:World)(a:DZ w f r):Calls prog 68 #[p,.pointer (some ⟨r.P,0,none⟩),Value.agg #[.int .i64 6,.int .i64 b,.int .i64 g,h,.string c,.string i,.bool j,.int .i64 d,.int .i64 k,l,m,.string n,.int .i64 t,.int .i64 u,.int .i64 g2,.string s,.int .i64 x,.int .i64 y]] w fun e w'=>e= .returned (.bool true)/\Below w.heap.size w w':=by
 have v:Hid (∀o,Calls prog 46 #[.pointer (some ⟨r.D,0,none⟩)] (w.alloc o) fun e w'=>e= .returned (.int .i64 (r.s.held.length:Int))/\∃q,w'=(w.alloc o).drewN q):=fun o=>KE r.D _ r.hb r.s _ (a.rd.below ((ct _ _).alloc (PC _) o))
 have z:Hid (∀o q,Below w.heap.size w ((w.alloc o).drewN q)):=fun o q=>cV ((ct _ _).alloc (PC _) o) q
 have A:=cn a.pair 0;have B:=cn a.pair 1;have C:=(th a.rf.at_).2.1;have D:=cA a.pair;have E:=cA a.rf.at_;have F:=lr r.s.held;go_enter func68,ntmps68;go_wp2_with fail
 refine(v.out _).mono ?_;rintro e H ⟨rfl,q,rfl⟩;go_wp2;go_ret;exact⟨rfl,z.out _ _⟩
def nN (k:Int)(n:Nat):Nat:=if k<0\/(n:Int)<=k then 0 else k.toNat
theorem td (k:Int){n:Nat}(a:0<n):nN k n<n:=by
 unfold nN;split<;>omega
theorem Db (k:Int)(n:Nat)(w:World):Calls prog 69 #[.int .i64 k,.int .i64 (n:Int)] w fun e w'=>e= .returned (.int .i64 ((nN k n:Nat):Int))/\w'=w:=by
 by_cases a:k<0
 .have e:nN k n=0:=by unfold nN;rw[cN (.inl a)]
  rw[e];go_wp2;go_ret;exact⟨rfl,rfl⟩
 .by_cases b:(n:Int)<=k
  .have e:nN k n=0:=by unfold nN;rw[cN (.inr b)]
   go_wp2;go_ret;exact⟨rfl,rfl⟩
  .have e:((nN k n:Nat):Int)=k:=by unfold nN;rw[cD (by omega)];omega
   go_wp2;go_ret;exact⟨rfl,rfl⟩
theorem LS:∃i,prog.info? 244=some i/\i.zero=some (.pointer none)/\i.size=1/\i.bytes=8:=by
 have h:(prog.info? 244).map (fun i=>(i.zero,i.size,i.bytes))=some (some (.pointer none),1,8):=by kernel_rfl
 obtain⟨i,b,a⟩:=dX.1 h;simp only[gi]at a;exact⟨i,b,a.1,a.2.1,a.2.2⟩
theorem Bw {w w':World}{M a c:List Nat}(k:eH M w w')(d:∀b∈M,∀(Z:Array Value) (T:Nat) (f:Nat×Nat),w.heap[b]?=some (.cells Z T f)->T∈c)(e:∀t∈a,t∉c):iT a w w':=iT.mQ k (fun b T Z f g h i=>e T i (d b g Z T f h))
end Go.Proofs.YtlonjggfnleolaaGreatDoor
