import Derived.Test.YtlonjggfnleolaaGreatDoorAlK
import Derived.Deep.Slices
import Derived.SizedLaws
import Derived.ChangeArms
set_option linter.unusedVariables false
set_option maxRecDepth 20000
namespace Go.Proofs.YtlonjggfnleolaaGreatDoor
open Go.RowKit Go.Deep Go.Proofs.Tryz
variable {w:World}{a:Addr}{v:Value}{fuel n:Nat}{cs:List Value}
theorem Ae (h:w.cell? a=some v):a=⟨a.block,a.off,none⟩/\a.block<w.heap.size:=by
 unfold World.cell? at h;split at h
 .rename_i c t f d;split at h
  .cases h
  .rename_i e;have b:a.spot=none:=by simp_all
   refine⟨?_,(jQ.1 d).1⟩;cases a;subst b;rfl
 .cases h
theorem add_plain (b o i:Nat):(⟨b,o,none⟩:Addr).add i=⟨b,o+i,none⟩:=by
 unfold Addr.add;split
 .subst_vars;rfl
 .rfl
def NT:Value->ByteArray
 | .string s=>s
 |_=>⟨#[]⟩
def Ls:Value->Bool
 | .bool s=>s
 |_=>false
section
variable {H:Type}{enc:TypeId×Value->H}{W:World}
section
variable {x:DataW H×List MemPlace}
theorem Qn (h:DataW.trod enc prog W 0 (fun _=>true) true fuel 34 [v]=some x)(u:∀k∈DataW.weights prog 34 x.1,k<=reachBytes):∃a n c w,v= .slice a n c/\dH W a n c w/\n<=8796093022208:=by
 rcases open_slice1 eO (by kernel_rfl) h with⟨d,r⟩|⟨a,b,y,m,n,V,D,I,d,J,z,K,o,r,p⟩
 .simp at d;subst d;exact⟨none,0,0,[],rfl,⟨rfl,PC _,by simp,by simp,.inr ⟨rfl,rfl⟩⟩,by omega⟩
 .simp at d o;subst d;subst o;have A:m*16<=140737488351232:=by
   have e:prog.bytesOf 9=16:=by kernel_rfl
   have:=u ((b+(m-b))*16) (by rw[r];simp[DataW.weights,underlying34,e]);unfold reachBytes at this;omega
  have f:∀i,i<m->∃s:ByteArray,V i= .string s/\s.size<=maxLen/\W.cell? (a.add i)=some (.string s):=fun i l=>by
   obtain⟨B,C⟩:=p i l;obtain⟨s,j,_,E⟩:=qE fi C;simp at j;exact⟨s,j,E,by rw[B,j]⟩
  refine⟨some a,b,m,(List.range b).map fun i=>NT (V i),rfl,⟨by simp,z,by simp;omega,?_,?_⟩,by omega⟩
  .intro s g;obtain⟨i,l,rfl⟩:=dA.1 g;have l:=List.mem_range.1 l;obtain⟨s,j,q,_⟩:=f i (by omega);rw[j];exact q
  .by_cases F:m=0
   .right;have:b=0:=by omega
    subst this;exact⟨rfl,F⟩
   .left;obtain⟨L,_,_,t⟩:=f 0 (by omega);have H:a.add 0=a:=by simp[Addr.add]
    rw[H]at t;obtain⟨j,q⟩:=Ae t;refine⟨a.block,a.off,by rw[<-j],q,?_⟩;intro i s g;rw[cL]at g;by_cases l:i<b
    .rw[pG l]at g;simp at g;obtain⟨M,f1,_,f3⟩:=f i (by omega);rw[f1]at g;rw[j,add_plain]at f3;rw[<-g];exact f3
    .rw[lG (by simp;omega)]at g;cases g
theorem Ea (h:DataW.trod enc prog W 0 (fun _=>true) true fuel 89 [v]=some x)(t:∀k∈DataW.weights prog 89 x.1,k<=reachBytes):∃a n c u,v= .slice a n c/\eZ W a n c u/\n<=140737488355328:=by
 rcases open_slice1 ju (by kernel_rfl) h with⟨d,q⟩|⟨a,b,w,m,n,V,D,H,d,I,y,J,l,q,o⟩
 .simp at d;subst d;exact⟨none,0,0,[],rfl,⟨rfl,PC _,by simp,.inr ⟨rfl,rfl⟩⟩,by omega⟩
 .simp at d l;subst d;subst l;have z:m*1<=140737488351232:=by
   have e:prog.bytesOf 4=1:=by kernel_rfl
   have:=t ((b+(m-b))*1) (by rw[q];simp[DataW.weights,underlying89,e]);unfold reachBytes at this;omega
  have f:∀i,i<m->∃s:Bool,V i= .bool s/\W.cell? (a.add i)=some (.bool s):=fun i p=>by
   obtain⟨A,B⟩:=o i p;obtain⟨s,j,_⟩:=DataW.trod_bool underlying4 B;simp at j;exact⟨s,j,by rw[A,j]⟩
  refine⟨some a,b,m,(List.range b).map fun i=>Ls (V i),rfl,⟨by simp,y,by simp;omega,?_⟩,by omega⟩;by_cases C:m=0
  .right;have:b=0:=by omega
   subst this;exact⟨rfl,C⟩
  .left;obtain⟨K,_,r⟩:=f 0 (by omega);have E:a.add 0=a:=by simp[Addr.add]
   rw[E]at r;obtain⟨j,F⟩:=Ae r;refine⟨a.block,a.off,by rw[<-j],F,?_⟩;intro i s g;rw[cL]at g;by_cases p:i<b
   .rw[pG p]at g;simp at g;obtain⟨L,f1,f3⟩:=f i (by omega);rw[f1]at g;rw[j,add_plain]at f3;rw[<-g];exact f3
   .rw[lG (by simp;omega)]at g;cases g
theorem ni (h:DataW.trod enc prog W 0 (fun _=>true) true fuel 3 [v]=some x):∃n:Int,v= .int .i64 n:=by
 obtain⟨n,e,_⟩:=DataW.trod_int underlying3 h;exact⟨n,by simp_all⟩
theorem Gt (h:DataW.trod enc prog W 0 (fun _=>true) true fuel 4 [v]=some x):∃n:Bool,v= .bool n:=by
 obtain⟨n,e,_⟩:=DataW.trod_bool underlying4 h;exact⟨n,by simp_all⟩
theorem vI (h:DataW.trod enc prog W 0 (fun _=>true) true fuel 9 [v]=some x):∃n:ByteArray,v= .string n/\n.size<=maxLen:=by
 obtain⟨n,e,_,a⟩:=qE fi h;exact⟨n,by simp_all,a⟩
end
theorem sN {a:List TypeId}{b:List (DataW H×List MemPlace)}{i:Nat}{t:TypeId}{y:DataW H×List MemPlace}(c:∀k∈DataW.weightsEach prog a (b.map (·.1)),k<=reachBytes)(d:a[i]?=some t)(f:b[i]?=some y):∀k∈DataW.weights prog t y.1,k<=reachBytes:=
 fun k e=>c k (DataW.weights_mem_each d (by grind) k e)
theorem Kb {u:Type}{l:List u}(h:l.length=18):∃j k m n o p q r s t a b c d e f g i,l=[j,k,m,n,o,p,q,r,s,t,a,b,c,d,e,f,g,i]:=by
 match l,h with
 | [j,k,m,n,o,p,q,r,s,t,a,b,c,d,e,f,g,i],_=>exact⟨j,k,m,n,o,p,q,r,s,t,a,b,c,d,e,f,g,i,rfl⟩
theorem gY {b:Array Field}{c:List (DataW H×List MemPlace)}(e:∀(i:Nat) (f:Field),b[i]?=some f->DataW.trod enc prog W 0 (fun _=>true) true n f.type ((cs.drop f.offset).take (prog.cellsOf f.type))=c[i]?)(i:Nat)(f:Field)(g:b[i]?=some f)(t:TypeId)(o d:Nat)(h:f.type=t)(j:f.offset=o)(k:prog.cellsOf t=d){y:DataW H×List MemPlace}(l:c[i]?=some y)(a:List Value)(m:(cs.drop o).take d=a):DataW.trod enc prog W 0 (fun _=>true) true n t a=some y:=by grind
theorem Mm {x:DataW H×List MemPlace}(h:DataW.trod enc prog W 0 (fun _=>true) true fuel 95 cs=some x)(hw:∀k∈DataW.weights prog 95 x.1,k<=reachBytes):∃k:Int,cs.length=18/\cs[0]?=some (.int .i64 k)/\Bc W k (.agg cs.toArray):=by
 obtain⟨o,n,_,rfl,hl,d,r⟩:=lM jw h;have ac:prog.cellsOf 95=18:=by kernel_rfl
 have v:∀k∈DataW.weightsEach prog [3,3,36,91,93,9,3,3] (o.map (·.1)),k<=reachBytes:=by
  intro k w;refine hw k ?_;exact w
 have get:∀(l:List (DataW H×List MemPlace)) (m i:Nat),l.length=m->i<m->∃y,l[i]?=some y:=fun l m i a b=>⟨l[i]'(by omega),cp _⟩
 obtain⟨c0,c1,c2,c3,c4,c5,c6,c7,c8,c9,z,A,B,C,D,L,M,N,rfl⟩:=Kb hl;have j:prog.cellsOf 3=1:=by kernel_rfl
 have s4:prog.cellsOf 4=1:=by kernel_rfl
 have J:prog.cellsOf 9=1:=by kernel_rfl
 have E:prog.cellsOf 34=1:=by kernel_rfl
 have O:prog.cellsOf 89=1:=by kernel_rfl
 have P:prog.cellsOf 36=6:=by kernel_rfl
 have Q:prog.cellsOf 91=4:=by kernel_rfl
 have R:prog.cellsOf 93=3:=by kernel_rfl
 obtain⟨y0,g0⟩:=get o 8 0 d (by omega);obtain⟨y1,g1⟩:=get o 8 1 d (by omega);obtain⟨y2,g2⟩:=get o 8 2 d (by omega);obtain⟨y3,g3⟩:=get o 8 3 d (by omega);obtain⟨y4,g4⟩:=get o 8 4 d (by omega);obtain⟨y5,g5⟩:=get o 8 5 d (by omega);obtain⟨y6,g6⟩:=get o 8 6 d (by omega);obtain⟨y7,g7⟩:=get o 8 7 d (by omega);have f0:=gY r 0 _ rfl 3 0 1 rfl rfl j g0 [c0] rfl;have f1:=gY r 1 _ rfl 3 1 1 rfl rfl j g1 [c1] rfl;have f2:=gY r 2 _ rfl 36 2 6 rfl rfl P g2 [c2,c3,c4,c5,c6,c7] rfl;have f3:=gY r 3 _ rfl 91 8 4 rfl rfl Q g3 [c8,c9,z,A] rfl;have f4:=gY r 4 _ rfl 93 12 3 rfl rfl R g4 [B,C,D] rfl;have f5:=gY r 5 _ rfl 9 15 1 rfl rfl J g5 [L] rfl
 have f6:=gY r 6 _ rfl 3 16 1 rfl rfl j g6 [M] rfl;have f7:=gY r 7 _ rfl 3 17 1 rfl rfl j g7 [N] rfl;have w2:=sN v (i:=2) rfl g2;have w3:=sN v (i:=3) rfl g3;obtain⟨k,rfl⟩:=ni f0;obtain⟨S,rfl⟩:=ni f1;obtain⟨s,rfl,hs⟩:=vI f5;obtain⟨x,rfl⟩:=ni f6;obtain⟨y,rfl⟩:=ni f7;obtain⟨t,nc,_,rfl,_,e,f⟩:=lM underlying36 f2;have wc:∀k∈DataW.weightsEach prog [3,34,9,9,4,3] (t.map (·.1)),k<=reachBytes:=by
  intro k w;refine w2 k ?_;exact w
 obtain⟨z0,q0⟩:=get t 6 0 e (by omega);obtain⟨z1,q1⟩:=get t 6 1 e (by omega);obtain⟨z2,q2⟩:=get t 6 2 e (by omega);obtain⟨z3,q3⟩:=get t 6 3 e (by omega);obtain⟨z4,q4⟩:=get t 6 4 e (by omega);obtain⟨z5,q5⟩:=get t 6 5 e (by omega);have p0:=gY f 0 _ rfl 3 0 1 rfl rfl j q0 [c2] rfl;have p1:=gY f 1 _ rfl 34 1 1 rfl rfl E q1 [c3] rfl;have p2:=gY f 2 _ rfl 9 2 1 rfl rfl J q2 [c4] rfl;have p3:=gY f 3 _ rfl 9 3 1 rfl rfl J q3 [c5] rfl;have p4:=gY f 4 _ rfl 4 4 1 rfl rfl s4 q4 [c6] rfl;have p5:=gY f 5 _ rfl 3 5 1 rfl rfl j q5 [c7] rfl;obtain⟨ck,rfl⟩:=ni p0;obtain⟨a,n',c,ss,rfl,hS,hn⟩:=Qn p1 (sN wc (i:=1) rfl q1);obtain⟨T,rfl,F⟩:=vI p2
 obtain⟨cw,rfl,_⟩:=vI p3;obtain⟨ft,rfl⟩:=Gt p4;obtain⟨U,rfl⟩:=ni p5;obtain⟨I,na,_,rfl,_,p,q⟩:=lM underlying91 f3;have wa:∀k∈DataW.weightsEach prog [3,89,34,9] (I.map (·.1)),k<=reachBytes:=by
  intro k w;refine w3 k ?_;exact w
 obtain⟨u0,r0⟩:=get I 4 0 p (by omega);obtain⟨u1,r1⟩:=get I 4 1 p (by omega);obtain⟨u2,r2⟩:=get I 4 2 p (by omega);obtain⟨u3,r3⟩:=get I 4 3 p (by omega);have t0:=gY q 0 _ rfl 3 0 1 rfl rfl j r0 [c8] rfl;have t1:=gY q 1 _ rfl 89 1 1 rfl rfl O r1 [c9] rfl;have t2:=gY q 2 _ rfl 34 2 1 rfl rfl E r2 [z] rfl;have t3:=gY q 3 _ rfl 9 3 1 rfl rfl J r3 [A] rfl;obtain⟨ak,rfl⟩:=ni t0;obtain⟨fa,fn,fc,bs,rfl,hF,V⟩:=Ea t1 (sN wa (i:=1) rfl r1);obtain⟨va,vn,vc,vs,rfl,hV,X⟩:=Qn t2 (sN wa (i:=2) rfl r2);obtain⟨wd,rfl,Y⟩:=vI t3;obtain⟨K,ng,_,rfl,_,g,u⟩:=lM underlying93 f4;have g:K.length=3:=g
 obtain⟨o0,v0⟩:=get K 3 0 g (by omega);obtain⟨o1,v1⟩:=get K 3 1 g (by omega);obtain⟨o2,v2⟩:=get K 3 2 g (by omega);have l0:=gY u 0 _ rfl 3 0 1 rfl rfl j v0 [B] rfl;have l1:=gY u 1 _ rfl 3 1 1 rfl rfl j v1 [C] rfl;have l2:=gY u 2 _ rfl 3 2 1 rfl rfl j v2 [D] rfl;obtain⟨Z,rfl⟩:=ni l0;obtain⟨aa,rfl⟩:=ni l1;obtain⟨ab,rfl⟩:=ni l2;exact⟨k,rfl,rfl,S,ck,a,n',c,ss,T,cw,ft,U,ak,fa,va,fn,fc,vn,vc,bs,vs,wd,Z,aa,ab,s,x,y,rfl,hS,F,hF,hV,Y,hs,hn,V,X⟩
theorem tJ {e:TypeId}:∀{l:List (DataW H)} {d:DataW H},d∈l->∀n∈d.weights prog e,n∈DataW.weightsAll prog e l
 |x::l,d,b,n,a=>by
  unfold DataW.weightsAll;rw[cr];rcases cQ.1 b with rfl|h
  .exact .inl a
  .exact .inr (tJ h n a)
theorem Gu (h:w.cells? 0 a n=some cs):∀i,i<n->w.cell? (a.add i)=cs[i]?:=by
 intro i b;unfold World.cells? at h;exact mapM_some_get h i i (pG b)
end
variable {fuel:Nat}
section
variable {H:Type}{enc:TypeId×Value->H}{W:World}
theorem Cn:∀{l:List (DataW H)} {d:DataW H},d∈l->Rows.uptoBulk d<=Rows.uptoBulkAll l
 |x::l,d,a=>by
  simp only[Rows.uptoBulkAll]
  rcases cQ.1 a with rfl|h
  .omega
  .have:=Cn h;omega
theorem Cm:∀(l m:List (DataW H)),Rows.uptoBulkAll (l++m)=Rows.uptoBulkAll l+Rows.uptoBulkAll m
 | [],m=>by simp[Rows.uptoBulkAll]
 |x::l,m=>by
  simp only[ja,Rows.uptoBulkAll]
  rw[Cm l m];omega
theorem xU (D:Nat->DataW H):∀n,Rows.uptoBulkAll ((List.range n).map D)=lu (fun i=>Rows.uptoBulk (D i)) n
 |0=>by simp[Rows.uptoBulkAll,lu]
 |n+1=>by
  rw[List.range_succ,dF,Cm,xU D n];simp[Rows.uptoBulkAll,lu]
theorem Ml {cs:List Value}{x:DataW H×List MemPlace}(h:DataW.trod enc prog W 0 (fun _=>true) true fuel 95 cs=some x):∃s:ByteArray,cs[15]?=some (.string s)/\s.size+1<=Rows.uptoBulk x.1:=by
 obtain⟨c,n,_,rfl,i,a,j⟩:=lM jw h;have k:prog.cellsOf 95=18:=by kernel_rfl
 have l:prog.cellsOf 9=1:=by kernel_rfl
 have a:c.length=8:=a;obtain⟨z,A,B,C,D,E,F,I,J,K,m,o,p,q,r,b,t,u,rfl⟩:=Kb i;obtain⟨d,e⟩:∃y,c[5]?=some y:=⟨c[5]'(by omega),cp _⟩
 have f5:=gY j 5 _ rfl 9 15 1 rfl rfl l e [b] rfl;obtain⟨s,f,v,_⟩:=qE fi f5;have f:b= .string s:=by grind
 refine⟨s,by rw[f];rfl,?_⟩;have w:d.1∈c.map (·.1):=dA.2 ⟨d,cu e,rfl⟩;have g:=Cn w;rw[v]at g;simp only[Rows.uptoBulk]at g⊢;have:=kQ s;omega
theorem Dv {base:Nat}{v:Value}{x:DataW H×List MemPlace}(h:DataW.trod enc prog W 0 (fun _=>true) true fuel 22 [v]=some x)(C:Value.okWide prog W .any base 22 v)(T:∀k∈DataW.weights prog 22 x.1,k<=reachBytes):v= .slice none 0 0\/∃b o N c E f Q,v= .slice (some ⟨b,o,none⟩) N c/\Bd W b o N E f Q/\N<=c/\N+lu Q N<=Rows.uptoBulk x.1:=by
 rcases open_slice underlying22 h with⟨e,F⟩|⟨a,d,U,m,n,D,Pl,e,hb,V,hm,t,F,w⟩
 .left;simpa using e
 .right;simp at e t;subst e;subst t;have y:a.spot=none/\a.block<W.heap.size:=by
   obtain⟨_,_,_,g,r,c,l,_⟩:=C;refine⟨g,?_⟩;unfold World.shape? at l;split at l
   .rename_i I;exact(jQ.1 I).1
   .cases l
  obtain⟨b,o,sp⟩:=a;obtain⟨g,J⟩:=y;subst g;have K:prog.cellsOf 95=18:=by kernel_rfl
  rw[K]at w;have z:∀j,∃(k:Int) (p:List Value),j<d->p.length=18/\W.cell? ⟨b,o+j*18,none⟩=some (.int .i64 k)/\W.rangeAt b (o+j*18) p/\Bc W k (.agg p.toArray)/\∃s:ByteArray,p[15]?=some (.string s)/\s.size+1<=Rows.uptoBulk (D j):=by
   intro j;by_cases q:j<d
   .obtain⟨p,L,A⟩:=w j (by omega);obtain⟨k,M,O,X⟩:=Mm A (fun k Y=>T k (by
     rw[F];simp only[DataW.weights,underlying22,cQ,cr]
     exact .inr (.inl (tJ (dA.2 ⟨j,List.mem_range.2 q,rfl⟩) k Y))))
    have R:=Gu L;rw[add_plain]at R;have S:W.rangeAt b (o+j*18) p:=by
     intro i u Z;have hi:i<18:=by grind
     have:=R i hi;rw[add_plain]at this;rw[this,Z]
    refine⟨k,p,fun _=>⟨M,?_,S,X,Ml A⟩⟩;have:=S 0 _ O;simpa using this
   .exact⟨0,[],fun h=>absurd h q⟩
  obtain⟨E,h1⟩:=Classical.axiomOfChoice z;obtain⟨f,P⟩:=Classical.axiomOfChoice h1;have B:∀n,n<=d->n+lu (fun i=>Rows.uptoBulk (D i)-1) n<=lu (fun i=>Rows.uptoBulk (D i)) n:=by
   intro n;induction n with
   |zero=>simp[lu]
   |succ n ih=>
    intro hn;obtain⟨_,_,_,_,s,_,hs⟩:=P n (by omega);simp only[lu]
    omega
  refine⟨b,o,d,m,E,f,fun i=>Rows.uptoBulk (D i)-1,rfl,⟨J,fun j q=>?_,fun j q=>?_⟩,V,?_⟩
  .obtain⟨a1,a2,a3,a4,_⟩:=P j q;exact⟨a1,a2,a3,a4⟩
  .obtain⟨_,_,_,_,s,e1,e2⟩:=P j q;exact⟨s,e1,by omega⟩
  .rw[F];simp only[Rows.uptoBulk]
   rw[xU];have:=B d (PC _);omega
end
end Go.Proofs.YtlonjggfnleolaaGreatDoor
