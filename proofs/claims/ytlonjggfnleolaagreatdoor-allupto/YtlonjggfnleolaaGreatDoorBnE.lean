import Derived.Test.YtlonjggfnleolaaGreatDoorSayA
import Derived.Test.YtlonjggfnleolaaGreatDoorAnB
import Derived.Maps.RangeRun
set_option linter.unusedVariables false
set_option maxHeartbeats 4000000
set_option maxRecDepth 100000
namespace Go.Proofs.YtlonjggfnleolaaGreatDoor
open Go.RowKit Go.Shelf Go.Proofs.Tryz
def lV (l:List UInt8):Option oc×Bool:=
 if l.length<7 then(none,true)
 else if ep l 0≠2\/2<ep l 1\/ep l 2≠0\/40<dM l 3 then(none,false)
 else if l.length<7+dM l 3 then(none,true)
 else(some ⟨ep l 1,dM l 5,bytesOf l 7 (dM l 3),7+dM l 3⟩,true)
def sw (r:Option oc×Bool):Value:= .tuple #[(match r.1 with|none=>vM|some r=>ov r),.bool r.2]
theorem EB (a:Option Addr)(n c:Nat)(l:List UInt8)(w:World)(d:l.length=n)(f:n<7):Calls prog 133 #[.slice a n c] w fun e w'=>e= .returned (sw (lV l))/\Below w.heap.size w w':=by
 have e:sw (lV l)= .tuple #[vM,.bool true]:=by unfold lV;rw[cN (by omega)];rfl
 have b:Hid (∀x,Below w.heap.size w (w.alloc x)):=fun x=>(ct _ _).alloc (PC _) x
 rw[e];go_wp2;refine cE (v:= .tuple #[.agg #[.int .i64 0,.int .u16 0,.string ⟨#[]⟩,.int .i64 0],.bool true]) (by simp[results,results133,go_sem]) rfl ⟨rfl,b.out _⟩
theorem GY (g o n c:Nat)(l:List UInt8)(w:World)(b:jZ w g o n c l)(h7:7<=n):Calls prog 133 #[.slice (some ⟨g,o,none⟩) n c] w fun e w'=>e= .returned (sw (lV l))/\Below w.heap.size w w':=by
 have ad:¬(n:Int)<7:=by omega
 have aa:=b.len;have ae:=b.lt;have ab:=b.cap;have af:=b.small;have c0:=b.Qb 0 (by omega);have c1:=b.Qb 1 (by omega);have c2:=b.Qb 2 (by omega);rw[im]at c0;have b0:=fL l 0;have b1:=fL l 1;have b2:=fL l 2;have t:Hid (∀x,Below w.heap.size w (w.alloc x)):=fun x=>(ct _ _).alloc (PC _) x
 have r:Hid (∀(W:World) (x y z u:Value),Below w.heap.size w W->Below w.heap.size w ((((W.setCell ⟨w.heap.size,0,none⟩ x).setCell ⟨w.heap.size,1,none⟩ y).setCell ⟨w.heap.size,2,none⟩ z).setCell ⟨w.heap.size,3,none⟩ u)):=fun W x y z u h=>(((h.setCell (p:=⟨w.heap.size,0,none⟩) (PC _) x).setCell (p:=⟨w.heap.size,1,none⟩) (PC _) y).setCell (p:=⟨w.heap.size,2,none⟩) (PC _) z).setCell (p:=⟨w.heap.size,3,none⟩) (PC _) u
 have E:Hid (∀W:World,Below w.heap.size w W->∀s,2<=s->Calls prog 163 #[.slice (some ⟨g,o+3,none⟩) 2 s] W fun e w'=>e= .returned (.int .i64 (dM l 3))/\∃q,w'=W.drewN q):=fun W f s v=>
  oq g (o+3) s _ _ W (fL l 3) (fL l 4) v (b.later f).lt ((b.later f).Qb 3 (by omega)) ((b.later f).Qb 4 (by omega))
 have M:Hid (∀W:World,Below w.heap.size w W->∀s,2<=s->Calls prog 163 #[.slice (some ⟨g,o+5,none⟩) 2 s] W fun e w'=>e= .returned (.int .i64 (dM l 5))/\∃q,w'=W.drewN q):=fun W f s v=>
  oq g (o+5) s _ _ W (fL l 5) (fL l 6) v (b.later f).lt ((b.later f).Qb 5 (by omega)) ((b.later f).Qb 6 (by omega))
 have ag:dM l 3<65536:=by have:=fL l 3;have:=fL l (3+1);unfold dM;omega
 have ah:dM l 5<65536:=by have:=fL l 5;have:=fL l (5+1);unfold dM;omega
 have A:Hid (dM l 3+7<=n->∀W,Below w.heap.size w W->∀k,(convert 80 9 (.slice (some ⟨g,o+7,none⟩) (dM l 3) k)).run prog W= .ok (.string (bytesOf l 7 (dM l 3))) W):=fun hh W f k=>oU W g o n c 7 (dM l 3) k l (b.later f) (by omega)
 have F:Hid (∀W,Below w.heap.size w W->∀k,(convert 80 9 (.slice (some ⟨g,o,none⟩) 0 k)).run prog W= .ok (.string ⟨#[]⟩) W):=fun W f k=>by
  have:=oU W g o n c 0 0 k l (b.later f) (by omega);rw[im]at this;rw[this];unfold bytesOf;simp
 have B:Hid (dM l 3=0->bytesOf l 7 (dM l 3)=⟨#[]⟩):=fun h=>by rw[h];unfold bytesOf;simp
 have ac:IntKind.u16.wrap ((dM l 5:Nat):Int)=((dM l 5:Nat):Int):=by rw[IntKind.wrap_u16];omega
 generalize a:sw (lV l)=R;unfold lV at a;rw[cD (by omega)]at a;generalize N:ep l 0=D at*;generalize O:ep l 1=i at*;generalize P:ep l 2=K at*;generalize Q:dM l 3=j at*;generalize S:dM l 5=i5 at*;generalize bytesOf l 7 j=T at*;clear b N O P Q S;by_cases d:D≠2\/2<i\/K≠0\/40<j
 .rw[cN d]at a;subst a;unfold sw vM;have hc:(¬(D:Int)=2)\/((D:Int)=2/\(2:Int)<i)\/((D:Int)=2/\¬(2:Int)<i/\¬(K:Int)=0)\/((D:Int)=2/\¬(2:Int)<i/\(K:Int)=0/\(47:Int)<7+(j:Int)):=by omega
  clear d;rcases hc with L|⟨L,h2⟩|⟨L,h2,h3⟩|⟨L,h2,h3,h4⟩
  all_goals
   go_enter func133,ntmps133
   go_wp2_with fail
   go_at_call 163
   refine(E.out _ (t.out _) _ (by omega)).mono ?_
   rintro e w1 ⟨rfl,q1,m⟩
   subst m
   go_wp2
   refine cE (v:= .tuple #[.agg #[.int .i64 0,.int .u16 0,.string ⟨#[]⟩,.int .i64 0],.bool false]) (by simp[results,results133,go_sem]) rfl ⟨rfl,r.out _ _ _ _ _ (cV (t.out _) _)⟩
 .rw[cD d]at a;obtain⟨rfl,L,rfl,h4⟩:D=2/\i<=2/\K=0/\j<=40:=by omega
  have ai:¬(2:Int)<(i:Int):=by omega
  have aj:¬(47:Int)<7+(j:Int):=by omega
  by_cases hw:n<7+j
  .rw[cN (by omega)]at a;subst a;unfold sw vM;have U:(n:Int)<7+(j:Int):=by omega
   go_enter func133,ntmps133;go_wp2_with fail
   go_at_call 163;refine(E.out _ (t.out _) _ (by omega)).mono ?_;rintro e w1 ⟨rfl,q1,m⟩;subst m;go_wp2;refine cE (v:= .tuple #[.agg #[.int .i64 0,.int .u16 0,.string ⟨#[]⟩,.int .i64 0],.bool true]) (by simp[results,results133,go_sem]) rfl ⟨rfl,r.out _ _ _ _ _ (cV (t.out _) _)⟩
  .rw[cD (by omega)]at a;subst a;unfold sw ov;have U:¬(n:Int)<7+(j:Int):=by omega
   have C:=cb (A.out (by omega));obtain⟨p,H⟩:∃p,p=7+j:=⟨_,rfl⟩
   have z1:(7:Int)+(j:Int)=(p:Int):=by omega
   have HZ:=cb (cd H z1);have w1:IntKind.i64.wrap (i:Int)=i:=eM _ (by omega) (by omega);have i2:(7:Int)<=(p:Int):=by omega
   have i3:(p:Int)<=(c:Int):=by omega
   have i4:(7:Int)<=(c:Int):=by omega
   have ak:(1:Int)<(n:Int):=by omega
   have e7:p-7=j:=by omega
   clear H z1 d;go_enter func133,ntmps133;go_wp2_with fail
   go_at_call 163;refine(E.out _ (t.out _) _ (by omega)).mono ?_;rintro e al ⟨rfl,q1,m⟩;subst m;go_wp2_with fail
   go_at_call 163;refine(M.out _ (cV (t.out _) _) _ (by omega)).mono ?_;rintro e w2 ⟨rfl,q2,V⟩;subst V;go_wp2_with fail
   rw[HZ.out.2];by_cases X:c=7
   .have I:j=0:=by omega
    have J:p=7:=by omega
    have Y:=B.out I;subst J;subst X;subst I;subst Y;clear E M A C B;go_region_held3 (fun w'=>w'.cell? ⟨g,o+1,none⟩=some (.int .u8 i)/\(convert 80 9 (.slice (some ⟨g,o,none⟩) 0 0)).run prog w'= .ok (.string ⟨#[]⟩) w')
     ((refine⟨?_,?_⟩;(first|(go_keep)|(go_simp));(exact F.out _ BW _)))
     (fail)
    all_goals go_wp2_with fail
    all_goals
     refine cE (v:= .tuple #[.agg #[.int .i64 (i:Int),.int .u16 (i5:Int),.string ⟨#[]⟩,.int .i64 7],.bool true]) (by simp[results,results133,go_sem]) rfl ⟨by simp,r.out _ _ _ _ _ (cV (t.out _) _)⟩
   .have Z:Hid (∀W,Below w.heap.size w W->∀k,(convert 80 9 (.slice (some ⟨g,o+7,none⟩) (p-7) k)).run prog W= .ok (.string T) W):=fun W f k=>by rw[e7];exact C.out W f k
    clear E M A C B F e7;go_region_held3 (fun w'=>w'.cell? ⟨g,o+1,none⟩=some (.int .u8 i)/\(convert 80 9 (.slice (some ⟨g,o+7,none⟩) (p-7) (c-7))).run prog w'= .ok (.string T) w')
     ((refine⟨?_,?_⟩;(first|(go_keep)|(go_simp));(exact Z.out _ BW _)))
     (fail)
    all_goals go_wp2_with fail
    all_goals
     refine cE (v:= .tuple #[.agg #[.int .i64 (i:Int),.int .u16 (i5:Int),.string T,.int .i64 (p:Int)],.bool true]) (by simp[results,results133,go_sem]) rfl ⟨?_,r.out _ _ _ _ _ (cV (t.out _) _)⟩
     rw[HZ.out.1]
variable {w:World}{D u:Nat}{v:Value}{d f:Bool}
structure Cf where
 dn:Bool
 nx:Nat
 m:Nat
 bp:Value
 bv:Value
def MD (t:Cf)(v:Value)(u:Nat)(d f:Bool):Obj:=zT t.dn t.nx t.m v (u:Int) d f t.bp t.bv
theorem oY {t:Cf}(h:w.heap[D]?=some (MD t v u d f)):
 w.cell? ⟨D,0,none⟩=some (.bool t.dn)/\w.cell? ⟨D,3,none⟩=some v/\w.cell? ⟨D,4,none⟩=some (.int .i64 (u:Int))/\w.cell? ⟨D,5,none⟩=some (.bool d)/\w.cell? ⟨D,6,none⟩=some (.bool f)/\(∀j,w.frozen? ⟨D,j,none⟩=false):=
 ⟨cn h 0,cn h 3,cn h 4,cn h 5,cn h 6,dN h⟩
section
variable (D u:Nat)(v:Value)(hb:Option Nat)(l:List UInt8)(w:World)
theorem Dt (H:qT w v u hb l)(d1:w.cell? ⟨D,3,none⟩=some v)(d2:w.cell? ⟨D,4,none⟩=some (.int .i64 (u:Int))):Calls prog 74 #[.pointer (some ⟨D,3,none⟩)] w fun e w'=>e= .returned (.int .i64 (l.length:Int))/\∃q,w'=w.drewN q:=by
 rcases H.form with⟨rfl,rfl,rfl,_⟩|⟨g,n,c,a,rfl,_,_,b,d,i,rfl,f,_⟩
 .go_wp2;go_quiet (fail)
  go_wp2;go_ret;exact⟨rfl,_,rfl⟩
 .have h:Hid ((a.drop u).length=n-u):=by show _=_;rw[fR,b]
  go_wp2;go_quiet (fail)
  go_wp2;go_ret;refine⟨?_,_,rfl⟩;rw[h.out];exact pY (by omega)
theorem ow (H:qT w v u hb l)(d1:w.cell? ⟨D,3,none⟩=some v)(d2:w.cell? ⟨D,4,none⟩=some (.int .i64 (u:Int))):Calls prog 125 #[.pointer (some ⟨D,3,none⟩)] w fun e w'=>(∃a c,e= .returned (.slice a l.length c)/\kx w a l.length c l/\(a=none->c=0)/\(∀g o,a=some ⟨g,o,none⟩->hb=some g))/\∃q,w'=w.drewN q:=by
 rcases H.form with⟨rfl,rfl,rfl,_⟩|⟨g,n,c,k,rfl,f,s,x,y,F,rfl,z,d⟩
 .go_wp2;go_quiet (fail)
  go_wp2;go_ret;exact⟨⟨none,0,rfl,⟨rfl,PC _,by simp,fun g o e=>(by cases e),fun i j=>(by cases j)⟩,fun _=>rfl,fun g o e=>(by cases e)⟩,_,rfl⟩
 .have b:Hid ((k.drop u).length=n-u):=by show _=_;rw[fR,x]
  have A:=cb d;have B:(u:Int)<=(n:Int):=by omega
  have C:(u:Int)<=(c:Int):=by omega
  have t:u<=c:=by omega
  by_cases E:c=u
  .subst E;have m:n=c:=by omega
   subst m;go_wp2;go_quiet (fail)
   go_wp2;go_ret;refine⟨⟨some ⟨g,0,none⟩,0,?_,⟨rfl,?_,?_,fun p r e=>?_,fun i j=>?_⟩,fun h=>(by cases h),fun p r e=>(by cases e;exact f)⟩,_,rfl⟩
   .rw[b.out];simp
   .rw[b.out];omega
   .rw[b.out];omega
   .cases e;exact s
   .rw[b.out]at j;omega
  .go_wp2;go_quiet (fail)
   go_wp2;go_ret;refine⟨⟨some ⟨g,u,none⟩,c-u,?_,⟨rfl,?_,?_,fun p r e=>?_,fun i j=>?_⟩,fun h=>(by cases h),fun p r e=>(by cases e;exact f)⟩,_,rfl⟩
   .rw[b.out];congr 2<;>first|omega|simp
   .rw[b.out];omega
   .rw[b.out];omega
   .cases e;exact s
   .rw[b.out]at j;refine⟨g,u,rfl,?_⟩;rw[A.out (u+i) (by omega)];simp[ep,List.getD]
end
structure mj (w:World)(D:Nat)(hb:Option Nat)(t:Cf)(s:St):Prop where
 ex:∃v u,w.heap[D]?=some (MD t v u s.pass s.closed)/\qT w v u hb s.held/\(u=0\/u<s.held.length)
 ne:hb≠some D
structure Aa (w w':World)(D:Nat)(hb:Option Nat)(t:Cf)(s:St):Prop where
 ex:∃hb',mj w' D hb' t s/\lN w hb hb'
 turn:iV D hb w w'
theorem KJ (D k:Nat)(t:Cf)(hb:Option Nat)(s:St)(w:World)(R:mj w D hb t s)(hk:k<=s.held.length):Calls prog 126 #[.pointer (some ⟨D,3,none⟩),.int .i64 (k:Int)] w fun e w'=>e= .returned (.tuple #[])/\Aa w w' D hb t ⟨s.held.drop k,s.pass,s.closed⟩:=by
 obtain⟨⟨v,u,Q,H,_⟩,S⟩:=R;obtain⟨i,d,f⟩:=s;simp only at Q H hk;obtain⟨d0,d1,d2,d3,d4,df⟩:=oY Q;have T:=cA Q;have H1:qT (w.setCell ⟨D,4,none⟩ (.int .i64 ((u:Int)+k))) v (u+k) hb (i.drop k):=by
  obtain⟨⟨m,h1,h2,P,h4⟩,F⟩:=H;have hl:i.length=m.length-u:=by rw[P];simp
  have:qT w v (u+k) hb (i.drop k):=⟨⟨m,h1,by omega,by rw[P,qg],h4⟩,F⟩
  exact this.other (fun b I=>cz w ⟨D,4,none⟩ _ b (by intro e;apply S;rw[I,e]))
 have aw:u+k<=140737488355328:=by
  obtain⟨⟨m,h1,h2,P,h4⟩,F⟩:=H;have hl:i.length=m.length-u:=by rw[P];simp
  omega
 have U:=dh (i:=4) Q (.int .i64 ((u:Int)+k));have J:(w.setCell ⟨D,4,none⟩ (.int .i64 ((u:Int)+k))).cell? ⟨D,3,none⟩=some v:=by go_simp
 have ak:(w.setCell ⟨D,4,none⟩ (.int .i64 ((u:Int)+k))).cell? ⟨D,4,none⟩=some (.int .i64 ((u:Int)+k)):=fq _ _ _ (by rw[d2];rfl);have V:ie D w (w.setCell ⟨D,4,none⟩ (.int .i64 ((u:Int)+k))):=(ie.refl D w).setCell 4 _;have au:(i.drop k).length<=140737488355328:=by
  obtain⟨⟨m,h1,h2,P,h4⟩,F⟩:=H1;rw[P];simp;omega
 have n:=cb (cd H1 (cd U V));clear H H1 U V Q;have y:(w.setCell ⟨D,4,none⟩ (.int .i64 ((u:Int)+k))).cell? ⟨D,4,none⟩=some (.int .i64 ((u+k:Nat):Int)):=ak;have p:=cb (fun q=>Dt D (u+k) v hb (i.drop k) ((w.setCell ⟨D,4,none⟩ (.int .i64 ((u:Int)+k))).drewN q) (n.out.1.other (fun _ _=>rfl)) J y);have r:=cb (Dt D (u+k) v hb (i.drop k) (w.setCell ⟨D,4,none⟩ (.int .i64 ((u:Int)+k))) n.out.1 J y);have z:=cb (fun q=>ow D (u+k) v hb (i.drop k) ((w.setCell ⟨D,4,none⟩ (.int .i64 ((u:Int)+k))).drewN q) (n.out.1.other (fun _ _=>rfl)) J y);clear y;by_cases ax:(i.drop k).length<=u+k
 .have W:((i.drop k).length:Int)<=(u:Int)+k:=by omega
  generalize hL:i.drop k=L at*;have ay:=cb hL;clear hL;go_wp2;go_quiet ((go_at_call 74;exact Calls.quiet_of (p.out _)))
  go_wp2_with fail
  go_at_call 125;refine(z.out _).mono ?_;rintro e w2 ⟨⟨a,c,rfl,X,B,_⟩,q,rfl⟩;have al:=cb X;have Y:=cb B;clear X B;by_cases K:L=[]
  .subst K;have Z:∀M,Aa w ((((w.setCell ⟨D,4,none⟩ (.int .i64 ((u:Int)+k))).drewN M).setCell ⟨D,3,none⟩ (.slice none 0 0)).setCell ⟨D,4,none⟩ (.int .i64 0)) D hb t ⟨[],d,f⟩:=by
    intro M;refine⟨⟨none,⟨⟨.slice none 0 0,0,?_,⟨⟨[],dv _ _ _ _,PC _,rfl,by simp⟩,rfl⟩,.inl rfl⟩,by simp⟩,.inr (.inl rfl)⟩,.pU (((n.out.2.2.drewN M).setCell 3 _).setCell 4 _)⟩;have am:((w.setCell ⟨D,4,none⟩ (.int .i64 ((u:Int)+k))).drewN M).heap[D]?=_:=n.out.2.1;exact(dh (i:=4) (dh (i:=3) am (.slice none 0 0)) (.int .i64 0)).trans rfl
   cases a with
   |none=>
    have an:c=0:=Y.out rfl;subst an;clear p z r;go_wp2;go_end0;exact⟨rfl,Z _⟩
   |some ad=>
    clear p z r;go_wp2;go_end0;exact⟨rfl,Z _⟩
  .have N:1<=L.length:=by cases L with|nil=>exact absurd rfl K|cons=>simp
   clear K;obtain⟨g,o,rfl,aa⟩:=al.out.Sa N;obtain⟨i5,hi,ab,ac,ae⟩:=FV;have HI:=cb (cd hi (cd ab (cd ac ae)));clear hi ab ac ae;have ao:Hid (∀M (j:Nat) (x:Value),(Ad L)[j]?=some x->((w.setCell ⟨D,4,none⟩ (.int .i64 ((u:Int)+k))).drewN M).cell? ((⟨g,o,none⟩:Addr).add j)=some x):=fun M j x hx=>by
    have af:(⟨g,o,none⟩:Addr).add j=⟨g,o+j,none⟩:=by unfold Addr.add;split<;>simp_all
    have hj:j<L.length:=by have:=(cq.1 hx).1;rw[xB]at this;exact this
    rw[Bk hj]at hx;cases hx;rw[af];exact aa.Qb j hj
   have ap:=cb (xB L);generalize ag:L.length=nL at*;have C:=cb ag;clear ag p z r aa;go_wp2_with (first
    |(at_builtin;refine wpList_append_lies _ rfl _ _ _ rfl 0 5 i5 (.int .u8 0) 1 1 fg HI.out.1 HI.out.2.1 HI.out.2.2.1 HI.out.2.2.2 rfl (by omega) (.slice none 0 0) 0 [] rfl (dv _ _ _ _) ⟨g,o,none⟩ nL c (Ad L) rfl (by rw[ap.out];omega) (ao.out _) (FJ L) (by omega) (by unfold maxLen;omega) (by omega) (by omega) _ rfl ?_;intro A O w4 E l ah av;have HF:=cb (cd E (cd (kY l) ah));obtain⟨f0,f1,f2,f3,f4,ff⟩:=oY ((((kY l).block D (by simpa using T)).trans n.out.2.1).trans (show _=some (MD t v (u+k) d f)from rfl));clear E l ah)
    |fail)
   go_end0;have az:A=w.heap.size:=by
    rcases HF.out.2.2 with h|h
    .cases h
    .simpa using h
   have ai:=HF.out.1;have aj:=HF.out.2.1;rw[eB,fI]at ai;refine⟨rfl,?_⟩;have aq:=((aj.block D (by simpa using T)).trans n.out.2.1)
   have ar:=(dh (i:=4) (dh (i:=3) aq (.slice (some ⟨A,0,none⟩) nL O)) (.int .i64 0))
   refine⟨⟨some A,⟨⟨.slice (some ⟨A,0,none⟩) nL O,0,ar.trans rfl,?_,.inl rfl⟩,by simp;omega⟩,.inr (.inr ⟨A,rfl,by omega⟩)⟩,.pU ((((n.out.2.2.drewN _).trans (.dP aj)).setCell 3 _).setCell 4 _)⟩;have h0:qT w4 (.slice (some ⟨A,0,none⟩) nL O) 0 (some A) L:=⟨⟨L,by rw[C.out];exact ai,cG _,rfl,by rw[C.out];omega⟩,rfl⟩
   refine h0.other (fun b I=>?_);cases I;rw[cz _ ⟨D,4,none⟩ _ _ (by show A≠D;omega),cz _ ⟨D,3,none⟩ _ _ (by show A≠D;omega)]
 .have W:¬((i.drop k).length:Int)<=(u:Int)+k:=by omega
  generalize hL:i.drop k=L at*;clear hL;go_wp2;go_quiet ((go_at_call 74;exact Calls.quiet_of (p.out _)))
  go_wp2;go_end0;refine⟨rfl,?_⟩;refine⟨⟨hb,⟨⟨v,u+k,?_,?_,.inr (by show u+k<L.length;omega)⟩,S⟩,.inl rfl⟩,.pU (n.out.2.2.drewN _)⟩
  .exact n.out.2.1.trans rfl
  .exact n.out.1.other (fun _ _=>rfl)
theorem Oy {i:World}{t:Cf}{hb:Option Nat}{g:Value}{e c:List UInt8}{a:ByteArray}(x:w.heap[D]?=some (MD t v u d f))(z:hb≠some D)(m:v.ownBlock=hb)(E:u<=c.length)(F:e=c.drop u)(n:u=0\/u<e.length)(A:c.length+a.size<=140737488355328)(j:i.ownsRow 0 5 1 g (c.length+a.size) (Ad c++Lib.strCells a))(b:w.grownBy i v.ownBlock)(o:g.ownBlock=v.ownBlock\/g.ownBlock=some w.heap.size):Aa w (i.setCell ⟨D,3,none⟩ g) D hb t ⟨e++a.data.toList,d,f⟩/\i.heap[D]?=some (MD t v u d f):=by
 have p:=cA x;have q:some D≠v.ownBlock:=by grind
 have l:=(b.block D p q).trans x;have r:g.ownBlock≠some D:=by grind
 have s:(c++a.data.toList).length=c.length+a.size:=by simp
 refine⟨⟨⟨g.ownBlock,⟨⟨g,u,(dh (i:=3) l g).trans rfl,?_,?_⟩,r⟩,?_⟩,?_⟩,l⟩
 .have B:qT i g u g.ownBlock (e++a.data.toList):=⟨⟨c++a.data.toList,by rw[FI,s,<-vH];exact j,by omega,by grind,by omega⟩,rfl⟩
  exact B.other (fun k y=>cz i ⟨D,3,none⟩ _ k (by grind))
 .rcases n with h|h
  .exact .inl h
  .right;simp;omega
 .rcases o with h|h
  .exact .inl (by rw[h,m])
  .exact .inr (.inr ⟨_,h,PC _⟩)
 .refine⟨b.os,b.tape,b.output,?_,fun k y C H=>?_⟩
  .have:=b.size;simpa using this
  .exact(cz i ⟨D,3,none⟩ _ k C).trans (b.block k y (by grind))
theorem IA (D:Nat)(t:Cf)(hb:Option Nat)(f:List UInt8)(d:ByteArray)(w:World)(R:mj w D hb t ⟨f,false,false⟩)(j:2*f.length+d.size<=140737488355328):Calls prog 58 #[.pointer (some ⟨D,3,none⟩),.string d] w fun e w'=>e= .returned (.tuple #[])/\Aa w w' D hb t ⟨f++d.data.toList,false,false⟩:=by
 obtain⟨⟨v,u,k,H,h⟩,l⟩:=R;simp only at k H h j;obtain⟨d0,d1,d2,d3,d4,F⟩:=oY k;obtain⟨⟨g,q,y,r,I⟩,m⟩:=H;have J:f.length=g.length-u:=by rw[r];simp
 have i:g.length+d.size<=140737488355328:=by omega
 have z:=cb (fun n s a b c=>Oy (i:=n) (g:=s) k l m y r h i a b c);obtain⟨A,B,C,o⟩:=ot q;subst o;have E:=cb q;go_enter func58,ntmps58;go_wp2_with (first
  |(refine ox _ rfl _ _ rfl (.slice A B C) g.length (Ad g) rfl E.out d rfl i ?_;intro s n a b c;obtain⟨K,L,M,p⟩:=ot a;subst p;have x:=cb (z.out n _ a b c);obtain⟨f0,f1,f2,f3,f4,N⟩:=oY x.out.2)
  |fail)
 go_end0;exact⟨rfl,x.out.1⟩
variable {w:World}{m:Nat}{l:List (Nat×Value)}
def PN (w:World)(m:Nat)(l:List (Nat×Value)):Prop:=∃b a,w.heap[m]?=some (.map b a)/\b.toList.map (fun e=>(e.key,e.val))=l.map (fun p=>(Value.int .u16 (p.1:Int),p.2))/\(∀x∈b.toList,x.born<a)/\(b.toList.map (·.born)).Nodup
theorem PN.at_ (h:PN w m l):so w m l:=by
 obtain⟨b,a,c,d,_⟩:=h;exact⟨b,a,c,d⟩
theorem PN.other {w':World}(h:PN w m l)(k:w'.heap[m]?=w.heap[m]?):PN w' m l:=by
 obtain⟨b,a,c,d⟩:=h;exact⟨b,a,k.trans c,d⟩
theorem PN.lt (h:PN w m l):m<w.heap.size:=h.at_.lt
theorem CG (k:Nat):∀(a:List MapEntry) (l:List (Nat×Value)) (i:Nat),a.map (fun e=>(e.key,e.val))=l.map (fun p=>(Value.int .u16 (p.1:Int),p.2))->(∃p∈l,p.1=k)->∃j p,l[j]?=some p/\p.1=k/\Instr.findNow (.int .u16) (.int .u16 (k:Int)) a i=some (some (i+j,p.2)):=by
 intro a;induction a with
 |nil=>intro l i h d;cases l with
  |nil=>obtain⟨p,c,_⟩:=d;cases c
  |cons p l=>simp at h
 |cons e a r=>
  intro l i h d;cases l with
  |nil=>simp at h
  |cons p l=>
   simp only[eu,pw]at h;obtain⟨n,s⟩:=h;have o:e.key= .int .u16 (p.1:Int):=congrArg Prod.fst n;have t:e.val=p.2:=congrArg Prod.snd n;by_cases c:p.1=k
   .refine⟨0,p,rfl,c,?_⟩;have f:Instr.sameNow (.int .u16) (.int .u16 (k:Int)) e.key=some true:=by
     rw[o,c];simp[Instr.sameNow]
    unfold Instr.findNow;rw[f,t];rfl
   .have f:Instr.sameNow (.int .u16) (.int .u16 (k:Int)) e.key=some false:=by
     rw[o];have:((k:Int)==(p.1:Int))=false:=by simp;omega
     simp[Instr.sameNow,this]
    obtain⟨q,x,g⟩:=d;have m:q∈l:=by grind
    obtain⟨j,u,v,b,w⟩:=r l (i+1) s ⟨q,m,g⟩;refine⟨j+1,u,by simp_all,b,?_⟩;unfold Instr.findNow;rw[f];rw[show i+(j+1)=i+1+j by omega];exact w
theorem Qh {b c:Type}(f:b->c):∀(l:List b) (j:Nat),(l.eraseIdx j).map f=(l.map f).eraseIdx j:=by
 intro l;induction l with
 |nil=>intro j;cases j<;>rfl
 |cons a l d=>
  intro j;cases j with
  |zero=>rfl
  |succ j=>simp[d]
theorem PN.update (w:World)(m k:Nat)(v:Value)(l:List (Nat×Value))(h:PN w m l)(n:∀p∈l,p.1≠k):∃w',(Instr.mapUpdate 141 (.map (some m)) (.int .u16 (k:Int)) v).run prog w= .ok () w'/\PN w' m (l++[(k,v)])/\eH [m] w w'/\w'.heap.size=w.heap.size:=by
 obtain⟨d,c,f,g,i,o⟩:=h;have q:=An k d.toList l 0 g n;refine⟨{w with heap:=w.heap.setIfInBounds m (.map (d.push {key:= .int .u16 (k:Int),val:=v,born:=c}) (c+1))},?_,⟨d.push {key:= .int .u16 (k:Int),val:=v,born:=c},c+1,?_,?_,?_,?_⟩,?_,by simp⟩
 .simp[Instr.mapUpdate,run_underlying underlying141,MapKept.run_getObj_map f,MapKept.run_checkKey underlying140 (show MapKept.IsKey (.int .u16) (.int .u16 (k:Int))from rfl),MapKept.run_findKey underlying140 q,MapKept.run_setObj_map _ f,Result.andThen]
 .simp[cA f]
 .simp[g]
 .intro x hx;simp at hx;rcases hx with hx|hx
  .have:=i x (by grind);omega
  .rw[hx];exact Nat.lt_succ_self _
 .rw[Array.toList_push,dF];refine fJ.2 ⟨o,by simp,fun a r b j e=>?_⟩;simp at j;obtain⟨x,hx,s⟩:=dA.1 r;have:=i x hx;omega
 .exact⟨rfl,rfl,rfl,by simp,fun b j t=>by grind⟩
theorem PN.delete (w:World)(m k:Nat)(n:TypeId)(l:List (Nat×Value))(h:PN w m l)(o:∃p∈l,p.1=k):∃w' v' j p,l[j]?=some p/\p.1=k/\(Builtin.delete_ #[141,140] n #[.map (some m),.int .u16 (k:Int)]).run prog w= .ok v' w'/\PN w' m (l.eraseIdx j)/\eH [m] w w'/\w'.heap.size=w.heap.size:=by
 obtain⟨c,a,d,e,q,r⟩:=h;obtain⟨j,p,s,t,u⟩:=CG k c.toList l 0 e o;have g:c.size=l.length:=by have:=congrArg List.length e;simpa using this
 have v:j<c.size:=by grind
 have f:(c.eraseIdxIfInBounds j).toList=c.toList.eraseIdx j:=by simp
 refine⟨{w with heap:=w.heap.setIfInBounds m (.map (c.eraseIdxIfInBounds j) a)},.tuple #[],j,p,s,t,?_,⟨c.eraseIdxIfInBounds j,a,?_,?_,?_,?_⟩,?_,by simp⟩
 .simp[Builtin.delete_,run_underlying underlying141,MapKept.run_getObj_map d,MapKept.run_checkKey underlying140 (show MapKept.IsKey (.int .u16) (.int .u16 (k:Int))from rfl),MapKept.run_findKey underlying140 u,MapKept.run_setObj_map _ d,Result.andThen]
 .simp[cA d]
 .rw[f,Qh,e,Qh]
 .intro x i;rw[f]at i;exact q x ((List.eraseIdx_sublist _ _).subset i)
 .rw[f,Qh];exact List.Sublist.nodup (List.eraseIdx_sublist _ _) r
 .exact⟨rfl,rfl,rfl,by simp,fun b y z=>by grind⟩
theorem PN.clear (w:World)(m:Nat)(d:TypeId)(l:List (Nat×Value))(h:PN w m l):∃w' v',(Builtin.clear_ #[141] d #[.map (some m)]).run prog w= .ok v' w'/\PN w' m []/\eH [m] w w'/\w'.heap.size=w.heap.size:=by
 obtain⟨e,a,c,f,g,i⟩:=h;refine⟨{w with heap:=w.heap.setIfInBounds m (.map #[] a)},.tuple #[],?_,⟨#[],a,?_,rfl,by simp,by simp⟩,?_,by simp⟩
 .simp[Builtin.clear_,run_underlying underlying141,MapKept.run_getObj_map c,MapKept.run_setObj_map _ c,Result.andThen]
 .simp[cA c]
 .exact⟨rfl,rfl,rfl,by simp,fun b j k=>by grind⟩
theorem uZ (a:Option Addr)(n c:Nat)(l:List UInt8)(w:World)(h:kx w a n c l):Calls prog 133 #[.slice a n c] w fun e w'=>e= .returned (sw (lV l))/\Below w.heap.size w w':=by
 by_cases b:n<7
 .exact EB a n c l w h.len b
 .obtain⟨g,o,rfl,d⟩:=h.Sa (by omega);exact GY g o n c l w d (by omega)
theorem oM {l:List UInt8}{r:oc}{b:Bool}(h:lV l=(some r,b)):b=true/\(r.st=0\/r.st=1\/r.st=2)/\r.id<65536/\r.val.size<=40/\7<=r.used/\r.used<=l.length:=by
 unfold lV at h;split at h
 .simp at h
 .split at h
  .simp at h
  .split at h
   .simp at h
   .obtain⟨rfl,rfl⟩:=h;have a:=fL l 5;have c:=fL l (5+1);refine⟨rfl,by grind,by show dM l 5<65536;unfold dM;omega,?_,by simp,by grind⟩;show((l.drop 7).take (dM l 3)).toArray.size<=40;simp;omega
theorem AR {w:World}{D u:Nat}{t:Cf}{v:Value}{a b:Bool}(h:w.heap[D]?=some (MD t v u a b)):w.cell? ⟨D,2,none⟩=some (.map (some t.m)):=cn h 2
section
variable (S:Nat)(hb:Option Nat)(t:Cf)(b:List UInt8)
theorem Rn (k:Bool)(w:World)(R:mj w S hb t ⟨b,false,false⟩)(x:lV b=(none,k)):Calls prog 94 #[.pointer (some ⟨S,0,none⟩)] w fun e w'=>e= .returned (.tuple #[.pointer none,.bool k])/\Below w.heap.size w w':=by
 obtain⟨⟨v,u,o,H,_⟩,p⟩:=R;obtain⟨d0,d1,d2,d3,d4,y⟩:=oY o;have r:=cb (ow S u v hb b w H d1 d2);have i:=cb (fun(a:Option Addr) (n c:Nat) (W:World) (h:kx W a n c b)=>uZ a n c b W h);unfold sw vM at i;go_enter func94,ntmps94;go_wp2_with fail
 refine r.out.mono ?_;rintro e m ⟨⟨a,c,rfl,d,_,_⟩,q,g⟩;have hF:=i.out a _ c m (by rw[g];exact⟨d.len,d.cap,d.small,d.ag,d.Qb⟩);have s:=cb hF;have j:Hid (Below w.heap.size w m):=by rw[g];exact cV (ct _ _) q
 clear d hF g;go_wp2_with fail
 refine s.out.mono ?_;rintro e z ⟨rfl,l⟩;have f:=cb (j.out.trans (l.mono j.out.size));cases k with
 |true=>
  go_wp2;go_ret2;exact⟨rfl,f.out.alloc f.out.size _⟩
 |false=>
  go_wp2;go_ret2;exact⟨rfl,f.out.alloc f.out.size _⟩
theorem Bt (r:oc)(l:List (Nat×Value))(w:World)(R:mj w S hb t ⟨b,false,false⟩)(L:lV b=(some r,true))(F:PN w t.m l)(M:∀p∈l,p.1≠r.id):Calls prog 94 #[.pointer (some ⟨S,0,none⟩)] w fun e w'=>e= .returned (.tuple #[.pointer none,.bool false])/\Below w.heap.size w w':=by
 obtain⟨⟨v,u,D,H,_⟩,U⟩:=R;obtain⟨d0,d1,d2,d3,d4,V⟩:=oY D;have N:=AR D;have j:=cA D;have X:=cb (ow S u v hb b w H d1 d2);have k:=cb (fun(a:Option Addr) (n c:Nat) (W:World) (h:kx W a n c b)=>uZ a n c b W h);rw[L]at k;obtain⟨_,I,hid,Y,Z,aa⟩:=oM L;have o:¬(r.used:Int)=0:=by omega
 have s:Hid (∀W,Below w.heap.size w W->(Instr.lookup 141 (.map (some t.m)) (.int .u16 (r.id:Int)) true).run prog W= .ok (.tuple #[Gg,.bool false]) W):=fun W hW=>uq W t.m r.id l (F.at_.other (hW.block t.m F.lt)) M
 clear D H M F;obtain⟨J,f,K,g⟩:=r;simp only at o s I hid;unfold sw ov at k;simp only at k;unfold Gg at s;go_enter func94,ntmps94;go_wp2_with fail
 go_at_call 125;refine X.out.mono ?_;rintro e O ⟨⟨a,c,rfl,d,_,_⟩,q,x⟩;have hF:=k.out a _ c O (by rw[x];exact⟨d.len,d.cap,d.small,d.ag,d.Qb⟩);have HF:=cb hF;have z:Hid (Below w.heap.size w O):=by rw[x];exact cV (ct _ _) q
 clear d hF x;go_wp2_with fail
 go_at_call 133;refine HF.out.mono ?_;rintro e A ⟨rfl,B⟩;have i:=cb (z.out.trans (B.mono z.out.size));have C:=(i.out.cell (p:=⟨S,2,none⟩) j).trans N;have P:S<A.heap.size:=cH j i.out.size;clear B d0 d1 d2 d3 d4 V N;go_wp2_with fail
 have m:Below w.heap.size w (A.alloc (.cells #[.int .i64 (J:Int),.int .u16 (f:Int),.string K,.int .i64 (g:Int)] 224)):=i.out.alloc i.out.size _;have Q:=du A (.cells #[.int .i64 (J:Int),.int .u16 (f:Int),.string K,.int .i64 (g:Int)] 224);have ab:=(m.cell (p:=⟨S,2,none⟩) j).trans ((i.out.cell (p:=⟨S,2,none⟩) j).symm.trans C);generalize A.alloc (.cells #[.int .i64 (J:Int),.int .u16 (f:Int),.string K,.int .i64 (g:Int)] 224)=w3 at*;have r1:=cn Q 1;simp at r1;have y:=cb m;have T:=m.size;clear m Q C;go_region_held3 (fun E=>E.cell? ⟨S,2,none⟩=some (.map (some t.m))/\E.cell? ⟨A.heap.size,1,none⟩=some (.int .u16 (f:Int))/\(Instr.lookup 141 (.map (some t.m)) (.int .u16 (f:Int)) true).run prog E= .ok (.tuple #[.agg #[.pointer none,.pointer none,.int .i64 0],.bool false]) E)
  ((refine⟨?_,?_,?_⟩;(first|(go_keep)|(go_simp));(first|(go_keep)|(go_simp));(exact s.out _ (by repeat(first|with_reducible exact y.out|with_reducible exact ct _ _|with_reducible refine dV ?_|with_reducible refine cV ?_ _|with_reducible refine dU ?_ (by first|omega|(simp;omega)) _|with_reducible refine dJ ?_ (by first|omega|(simp;omega)) _)))))
  (fail)
 all_goals go_wp2
 all_goals go_ret2
 all_goals exact⟨rfl,(y.out.alloc y.out.size _).drew⟩
end
variable {o:Oper}{a:Act}{K:Act->World->Prop}{Q:Exit->Act->World->Prop}
theorem RC (w:World){K:Act->World->Prop}{Q:Exit->Act->World->Prop}(s x:Operand)(i:o.op= .call {callee:= .builtin .delete,args:=#[s,x],argTypes:=#[141,140]})(m k:Nat)(l:List (Nat×Value))(n:a.eval s= .map (some m))(q:a.eval x= .int .u16 (k:Int))(d:PN w m l)(e:∃p∈l,p.1=k)(h:∀w' j p,l[j]?=some p->p.1=k->PN w' m (l.eraseIdx j)->eH [m] w w'->w'.heap.size=w.heap.size->K (a.put o.dst (.tuple #[])) w'):Oper.wp prog o a w K Q:=by
 obtain⟨w',r,j,p,t,u,f,v,y,z⟩:=PN.delete w m k o.type l d e;have A:r= .tuple #[]:=by
  have b:=f;obtain⟨B,c,g,C,H,I⟩:=d;obtain⟨J,L,D,E,F⟩:=CG k B.toList l 0 C e;simp[Builtin.delete_,run_underlying underlying141,MapKept.run_getObj_map g,MapKept.run_checkKey underlying140 (show MapKept.IsKey (.int .u16) (.int .u16 (k:Int))from rfl),MapKept.run_findKey underlying140 F,MapKept.run_setObj_map _ g,Result.andThen]at b;exact b.1.symm
 subst A;unfold Oper.wp execOp;simp only[i,resolve,invoke,builtin,od,oe,kj,kK,eu,iI,n,q,f]
 exact h w' j p t u v y z
theorem DC (w:World){b:Array Oper}{K:Act->World->Prop}{Q:Exit->Act->World->Prop}{E:Prop}(c:o.guard=none)(s x:Operand)(d:o.op= .call {callee:= .builtin .delete,args:=#[s,x],argTypes:=#[141,140]})(m k:Nat)(l:List (Nat×Value))(e:a.eval s= .map (some m))(f:a.eval x= .int .u16 (k:Int))(g:PN w m l)(i:∃p∈l,p.1=k)(h:∀w' j p,l[j]?=some p->p.1=k->PN w' m (l.eraseIdx j)->eH [m] w w'->w'.heap.size=w.heap.size->K (a.put o.dst (.tuple #[])) w'):if Region.wanted o (yielded b a.tmps)=true then Oper.wp prog o a w K Q else E:=by
 have n:Region.wanted o (yielded b a.tmps)=true:=by simp[Region.wanted,c]
 rw[cN n];exact RC w s x d m k l e f g i h
theorem RE (S C q i:Nat)(hb:Option Nat)(t:Cf)(b:List UInt8)(r:oc)(l:List (Nat×Value))(k:Int)(kv:Value)(F wd:ByteArray)(ft:Bool)(I n:Int)(fa re:Bool)(yv vv:Value)(w:World)(R:mj w S hb t ⟨b,false,false⟩)(hf:lV b=(some r,true))(Q:PN w t.m l)(hk:∃p∈l,p.1=r.id)(hu:∀p∈l,p.1=r.id->p.2=gS C q i)(T:w.heap[q]?=some (sx k kv F wd ft I n fa re yv vv))(z:vp k r=false):Calls prog 94 #[.pointer (some ⟨S,0,none⟩)] w fun e w'=>e= .returned (.tuple #[.pointer none,.bool false])/\Below w.heap.size w w':=by
 obtain⟨⟨v,u,O,H,_⟩,ad⟩:=R;obtain⟨d0,d1,d2,d3,d4,df⟩:=oY O;have dm:=AR O;have m:=cA O;have HW:=cb (ow S u v hb b w H d1 d2);have o:=cb (fun(a:Option Addr) (n c:Nat) (W:World) (h:kx W a n c b)=>uZ a n c b W h);rw[hf]at o;obtain⟨_,U,hid,ae,af,ag⟩:=oM hf;have A:¬(r.used:Int)=0:=by omega
 have B:Hid (∀W,Below w.heap.size w W->(Instr.lookup 141 (.map (some t.m)) (.int .u16 (r.id:Int)) true).run prog W= .ok (.tuple #[gS C q i,.bool true]) W):=fun W V=>by
  obtain⟨p,hp,X,hr⟩:=qv W t.m r.id l (Q.at_.other (V.block t.m Q.lt)) hk;rw[hu p hp X]at hr;exact hr
 have s:Hid (∀W,Below w.heap.size w W->Calls prog 134 #[gS C q i,ov r] W fun e w'=>e= .returned (.bool false)/\Below W.heap.size W w'):=fun W V=>by
  have:=AG C q i k kv F wd ft I n fa re yv vv r W ((V.block q (cA T)).trans T);rw[z]at this;exact this
 clear O H hk Q hu T z;obtain⟨Y,f,Z,g⟩:=r;simp only at A B U hid;unfold sw ov at o;unfold ov at s;unfold gS at B s;simp only at o s;go_enter func94,ntmps94;go_wp2_with fail
 go_at_call 125;refine HW.out.mono ?_;rintro e w1 ⟨⟨a,c,rfl,d,_,_⟩,q1,D⟩;have hF:=o.out a _ c w1 (by rw[D];exact⟨d.len,d.cap,d.small,d.ag,d.Qb⟩);have HF:=cb hF;have J:Hid (Below w.heap.size w w1):=by rw[D];exact cV (ct _ _) q1
 clear d hF D;go_wp2_with fail
 go_at_call 133;refine HF.out.mono ?_;rintro e K ⟨rfl,L⟩;have j:=cb (J.out.trans (L.mono J.out.size));have M:=(j.out.cell (p:=⟨S,2,none⟩) m).trans dm;have ab:S<K.heap.size:=cH m j.out.size;clear L d0 d1 d2 d3 d4 df dm;go_wp2_with fail
 have x:Below w.heap.size w (K.alloc (.cells #[.int .i64 (Y:Int),.int .u16 (f:Int),.string Z,.int .i64 (g:Int)] 224)):=j.out.alloc j.out.size _;have E:=du K (.cells #[.int .i64 (Y:Int),.int .u16 (f:Int),.string Z,.int .i64 (g:Int)] 224);have ah:=(x.cell (p:=⟨S,2,none⟩) m).trans ((j.out.cell (p:=⟨S,2,none⟩) m).symm.trans M);generalize K.alloc (.cells #[.int .i64 (Y:Int),.int .u16 (f:Int),.string Z,.int .i64 (g:Int)] 224)=w3 at*;have r0:=cn E 0;have r1:=cn E 1;have r2:=cn E 2;have r3:=cn E 3;simp at r0 r1 r2 r3;have ai:=cA E;have y:=cb x;have ac:=x.size
 clear x E M;go_region_held3 (fun P=>P.cell? ⟨S,2,none⟩=some (.map (some t.m))/\P.cell? ⟨K.heap.size,1,none⟩=some (.int .u16 (f:Int))/\(Instr.lookup 141 (.map (some t.m)) (.int .u16 (f:Int)) true).run prog P= .ok (.tuple #[.agg #[.pointer (some ⟨C,0,none⟩),.pointer (some ⟨q,0,none⟩),.int .i64 (i:Int)],.bool true]) P)
  ((refine⟨?_,?_,?_⟩;(first|(go_keep)|(go_simp));(first|(go_keep)|(go_simp));(exact B.out _ (by repeat(first|with_reducible exact y.out|with_reducible exact ct _ _|with_reducible refine dV ?_|with_reducible refine cV ?_ _|with_reducible refine dU ?_ (by first|omega|(simp;omega)) _|with_reducible refine dJ ?_ (by first|omega|(simp;omega)) _)))))
  (fail)
 all_goals go_wp2_with fail
 all_goals
  go_at_call 134
  refine(s.out _ ?_).mono ?_
  .repeat(first|with_reducible exact y.out|with_reducible refine dV ?_|with_reducible refine dU ?_ (by first|omega|(simp;omega)) _)
  rintro e w4 ⟨rfl,N⟩
  have aa:Hid (Below w.heap.size w w4):=((y.out.alloc y.out.size _).drew).trans (N.mono (by simp;omega))
  clear N
  go_wp2
  go_ret2
  exact⟨rfl,aa.out⟩
variable {w w':World}{S:Nat}{hb:Option Nat}{t:Cf}{s:St}
theorem mj.below (h:mj w S hb t s)(k:Below w.heap.size w w'):mj w' S hb t s:=by
 obtain⟨⟨v,u,e,H,f⟩,a⟩:=h;refine⟨⟨v,u,(k.block S (cA e)).trans e,H.other (fun b c=>?_),f⟩,a⟩;obtain⟨⟨g,i,_⟩,d⟩:=H;obtain⟨j,l⟩:=cZ i (d.trans c);exact k.block b (cA l)
theorem mj.As {b:Nat}(h:mj w S hb t s)(e:hb=some b):∃a,w.heap[b]?=some (.cells a 5 (0,0)):=by
 obtain⟨⟨v,u,i,H,j⟩,d⟩:=h;obtain⟨⟨f,g,_⟩,c⟩:=H;exact cZ g (c.trans e)
theorem mj.eC (h:mj w S hb t s):∃Z,w.heap[S]?=some (.cells Z 143 (0,0))/\Z[2]?=some (.map (some t.m)):=by
 obtain⟨⟨v,u,a,H,c⟩,b⟩:=h;exact⟨_,a,rfl⟩
theorem mj.keep (h:mj w S hb t s)(k:∀b,b=S\/hb=some b->w'.heap[b]?=w.heap[b]?):mj w' S hb t s:=by
 obtain⟨⟨v,u,d,H,e⟩,a⟩:=h;exact⟨⟨v,u,(k S (.inl rfl)).trans d,H.other (fun b c=>k b (.inr c)),e⟩,a⟩
theorem iV.mQ {D:Nat}(h:iV D hb w.drew w'):eH (D::hb.toList) w w':=
 ⟨h.os,h.tape,h.output,h.size,fun b a c=>h.block b a (fun e=>c (by simp[e])) (fun e=>c (by simp[<-e]))⟩
def Si (w w':World)(S q d e i c:Nat)(hb:Option Nat)(t:Cf)(a:List UInt8)(r:oc)(l:List (Nat×Value))(k:Int)(h:Value)(f m:ByteArray)(o:Bool)(g:Int)(n:Nat)(s u:Bool)(v x:Array Value):Prop:=
 ∃(b:Option Nat) (j:Nat) (p:Nat×Value),mj w' S b t ⟨a.drop r.used,false,false⟩/\lN w hb b/\l[j]?=some p/\p.1=r.id/\PN w' t.m (l.eraseIdx j)/\w'.heap[q]?=some (sx k h f m o g (n:Int) s (u || decide (r.st=2)) (.slice (some ⟨d,0,none⟩) c c) (.slice (some ⟨e,0,none⟩) c c))/\w'.heap[d]?=some (.cells (v.set! i (.bool (decide (r.st=0)))) 4 (0,0))/\w'.heap[e]?=some (.cells (x.set! i (.string r.val)) 9 (0,0))/\eH (S::t.m::q::d::e::hb.toList) w w'
theorem RF (S C q A B i D:Nat)(hb:Option Nat)(t:Cf)(f:List UInt8)(r:oc)(l:List (Nat×Value))(k:Int)(kv:Value)(O wd:ByteArray)(ft:Bool)(P:Int)(n:Nat)(fa re:Bool)(Zy Zv:Array Value)(w:World)(R:mj w S hb t ⟨f,false,false⟩)(hf:lV f=(some r,true))(hm:PN w t.m l)(hk:∃p∈l,p.1=r.id)(hu:∀p∈l,p.1=r.id->p.2=gS C q i)(hq:w.heap[q]?=some (sx k kv O wd ft P ((n+1:Nat):Int) fa re (.slice (some ⟨A,0,none⟩) D D) (.slice (some ⟨B,0,none⟩) D D)))(hy:w.heap[A]?=some (.cells Zy 4 (0,0)))(hv:w.heap[B]?=some (.cells Zv 9 (0,0)))(aW:Zy.size=D)(aX:Zv.size=D)(hi:i<D)(aY:D<=1000)(hn:n<=1000)(ag:vp k r=true):Calls prog 94 #[.pointer (some ⟨S,0,none⟩)] w fun e w'=>e= .returned (.tuple #[.pointer (some ⟨C,0,none⟩),.bool true])/\Si w w' S q A B i D hb t f r l k kv O wd ft P n fa re Zy Zv:=by
 have HR:=cb R;obtain⟨⟨v,u,hD,H,_⟩,bt⟩:=R;obtain⟨d0,d1,d2,d3,d4,df⟩:=oY hD;have dm:=AR hD;have E:=cA hD;have HW:=cb (ow S u v hb f w H d1 d2);have X:=cb (fun(a:Option Addr) (n c:Nat) (W:World) (h:kx W a n c f)=>uZ a n c f W h);rw[hf]at X;obtain⟨_,ax,hid,bu,bv,aZ⟩:=oM hf;have ak:¬(r.used:Int)=0:=by omega
 have al:Hid (∀W,Below w.heap.size w W->(Instr.lookup 141 (.map (some t.m)) (.int .u16 (r.id:Int)) true).run prog W= .ok (.tuple #[gS C q i,.bool true]) W):=fun W hW=>by
  obtain⟨p,hp,a0,hr⟩:=qv W t.m r.id l (hm.at_.other (hW.block t.m hm.lt)) hk;rw[hu p hp a0]at hr;exact hr
 have Y:Hid (∀W,Below w.heap.size w W->Calls prog 134 #[gS C q i,ov r] W fun e w'=>e= .returned (.bool true)/\Below W.heap.size W w'):=fun W hW=>by
  have:=AG C q i k kv O wd ft P _ fa re _ _ r W ((hW.block q (cA hq)).trans hq);rw[ag]at this;exact this
 have ay:=cA hq;have az:=cA hy;have aA:=cA hv;have aB:=hm.lt;obtain⟨ZS,am,a5⟩:=HR.out.eC;have aC:S≠t.m:=fun e=>by
  obtain⟨es,g,m,_⟩:=hm;rw[<-e,am]at m;cases m
 have aD:∀b,hb=some b->b≠t.m:=fun b e e2=>by
  obtain⟨es,g,m,_⟩:=hm;obtain⟨an,hc⟩:=HR.out.As e;rw[<-e2,hc]at m;cases m
 have aa:∀(b T:Nat) (Z:Array Value),w.heap[b]?=some (.cells Z T (0,0))->T≠143->T≠5->b≠S/\some b≠hb/\b≠t.m:=fun b T Z N m V=>by
  refine⟨fun e=>?_,fun e=>?_,fun e=>?_⟩
  .rw[e,am]at N;simp at N;exact m N.2.symm
  .obtain⟨an,hc⟩:=HR.out.As e.symm;rw[hc]at N;simp at N;exact V N.2.symm
  .obtain⟨es,g,ab,_⟩:=hm;rw[e,ab]at N;cases N
 have F:=hq;unfold sx at F;have d:=cb (cd (aa q 216 _ F (by decide) (by decide)) (cd (aa A 4 _ hy (by decide) (by decide)) (cd (aa B 9 _ hv (by decide) (by decide)) (cd aC aD))));have HQ:=cb (cd hq (cd hy (cd hv hm)));have HK:=cb hk;have aE:∀b,hb=some b->b<w.heap.size:=fun b e=>by obtain⟨an,hc⟩:=HR.out.As e;exact cA hc
 have aF:=cb aE;have ah:Hid (∀W,Below w.heap.size w W->Calls prog 126 #[.pointer (some ⟨S,3,none⟩),.int .i64 (r.used:Int)] W fun e w'=>e= .returned (.tuple #[])/\Aa W w' S hb t ⟨f.drop r.used,false,false⟩):=fun W hW=>KJ S r.used t hb ⟨f,false,false⟩ W (HR.out.below hW) aZ
 have ao:Hid (∀W,W.heap[q]?=w.heap[q]?->W.heap[A]?=w.heap[A]?->W.heap[B]?=w.heap[B]?->Calls prog 135 #[.pointer (some ⟨q,0,none⟩),.int .i64 (i:Int),ov r] W fun e w'=>e= .returned (.tuple #[])/\w'.heap[q]?=some (sx k kv O wd ft P (n:Int) fa (re || decide (r.st=2)) (.slice (some ⟨A,0,none⟩) D D) (.slice (some ⟨B,0,none⟩) D D))/\w'.heap[A]?=some (.cells (Zy.set! i (.bool (decide (r.st=0)))) 4 (0,0))/\w'.heap[B]?=some (.cells (Zv.set! i (.string r.val)) 9 (0,0))/\eH [q,A,B] W w'):=fun W m V h3=>Im q A B i D k kv O wd ft P n fa re Zy Zv r W (m.trans hq) (V.trans hy) (h3.trans hv) aW aX hi aY hn ax
 clear hD H hk hm hu hq ag hy hv aa F am a5 aC aD aE;obtain⟨st,o,rv,s⟩:=r;simp only at ak al ax hid;unfold sw ov at X;unfold ov at Y ao;unfold gS at al Y;simp only at X Y ao ah;go_enter func94,ntmps94;go_wp2_with fail
 go_at_call 125;refine HW.out.mono ?_;rintro e w1 ⟨⟨a,c,rfl,I,_,_⟩,q1,ap⟩;have hF:=X.out a _ c w1 (by rw[ap];exact⟨I.len,I.cap,I.small,I.ag,I.Qb⟩);have HF:=cb hF;have aG:Hid (Below w.heap.size w w1):=by rw[ap];exact cV (ct _ _) q1
 clear I hF ap;go_wp2_with fail
 go_at_call 133;refine HF.out.mono ?_;rintro e J ⟨rfl,aH⟩;have K:=cb (aG.out.trans (aH.mono aG.out.size));have aI:=(K.out.cell (p:=⟨S,2,none⟩) E).trans dm;have bp:S<J.heap.size:=cH E K.out.size;have a6:¬S=J.heap.size:=by omega
 clear aH d0 d1 d2 d3 d4 df dm;go_wp2_with fail
 have Q:Below w.heap.size w (J.alloc (.cells #[.int .i64 (st:Int),.int .u16 (o:Int),.string rv,.int .i64 (s:Int)] 224)):=K.out.alloc K.out.size _;have hN:=du J (.cells #[.int .i64 (st:Int),.int .u16 (o:Int),.string rv,.int .i64 (s:Int)] 224);have bw:=(Q.cell (p:=⟨S,2,none⟩) E).trans ((K.out.cell (p:=⟨S,2,none⟩) E).symm.trans aI);generalize J.alloc (.cells #[.int .i64 (st:Int),.int .u16 (o:Int),.string rv,.int .i64 (s:Int)] 224)=w3 at*;have r0:=cn hN 0;have r1:=cn hN 1;have r2:=cn hN 2;have r3:=cn hN 3;simp at r0 r1 r2 r3;have bx:=cA hN;have bq:S<w3.heap.size:=cH E Q.size;have ac:=cb Q;have br:=Q.size
 have a7:=cb hN;clear Q hN aI;go_region_held3 (fun W'=>W'.cell? ⟨S,2,none⟩=some (.map (some t.m))/\W'.cell? ⟨J.heap.size,1,none⟩=some (.int .u16 (o:Int))/\(Instr.lookup 141 (.map (some t.m)) (.int .u16 (o:Int)) true).run prog W'= .ok (.tuple #[.agg #[.pointer (some ⟨C,0,none⟩),.pointer (some ⟨q,0,none⟩),.int .i64 (i:Int)],.bool true]) W')
  ((refine⟨?_,?_,?_⟩;(first|(go_keep)|(go_simp));(first|(go_keep)|(go_simp));(exact al.out _ (by repeat(first|with_reducible exact ac.out|with_reducible exact ct _ _|with_reducible refine dV ?_|with_reducible refine cV ?_ _|with_reducible refine dU ?_ (by first|omega|(simp;omega)) _|with_reducible refine dJ ?_ (by first|omega|(simp;omega)) _)))))
  (fail)
 all_goals go_wp2_with fail
 all_goals
  go_at_call 134
  refine(Y.out _ ?_).mono ?_
  .repeat(first|with_reducible exact ac.out|with_reducible refine dV ?_|with_reducible refine dU ?_ (by first|omega|(simp;omega)) _)
  rintro e w4 ⟨rfl,z⟩
  have L:Hid (Below w.heap.size w w4):=((ac.out.alloc ac.out.size _).drew).trans (z.mono (by simp;omega))
  have U:w4.heap[J.heap.size]?=some (.cells #[.int .i64 (st:Int),.int .u16 (o:Int),.string rv,.int .i64 (s:Int)] 224 (0,0)):=(z.block _ (by simp;omega)).trans (gC (dI a7.out _))
  have aq:w4.heap[w3.heap.size]?=some (.cells #[.pointer (some ⟨C,0,none⟩),.pointer (some ⟨q,0,none⟩),.int .i64 (i:Int)] 222 (0,0)):=(z.block _ (by simp)).trans (gC (du w3 _))
  have bs:S<w4.heap.size:=cH E L.out.size
  have s2:=K.out.size
  have s4:=L.out.size
  have a8:=cb (ah.out w4.drew L.out.drew)
  clear z r0 r1 r2 r3
  have r1:=cn U 1
  have r3:=cn U 3
  simp at r1 r3
  have a9:=cA U
  have ba:=cA aq
  have aJ:=cb (cd U aq)
  clear U aq
  go_wp2_with fail
  go_region_held3 (fun W'=>W'.cell? ⟨J.heap.size,3,none⟩=some (.int .i64 (s:Int))) (go_keep) (first
   |(go_at_call 126;refine a8.out.mono ?_;rintro e w5 ⟨rfl,ad⟩;have bb:some J.heap.size≠hb:=(fun e=>by have:=aF.out _ e.symm;omega);have bc:some w3.heap.size≠hb:=(fun e=>by have:=aF.out _ e.symm;omega);have ar:=(ad.turn.block J.heap.size (by simpa using a9) (fun e=>a6 e.symm) bb).trans (gC aJ.out.1);have aK:=(ad.turn.block w3.heap.size (by simpa using ba) (by omega) bc).trans (gC aJ.out.2);have aL:=cn ar 3;simp at aL;have M:=cb (cd ad (cd ar aK));clear ad ar aK r1 r3)
   |fail)
  all_goals
   obtain⟨⟨bd,au,ai⟩,av⟩:=M.out.1
   obtain⟨bz,ae,aj⟩:=au.eC
   have aM:w5.cell? ⟨S,2,none⟩=some (.map (some t.m)):=(cn ae 2).trans aj
   have aN:=cn M.out.2.1 1
   simp at aN
   have EF:w5.heap[t.m]?=w.heap[t.m]?:=(av.block t.m (cH aB s4) (fun e=>d.out.2.2.2.1 e.symm) (fun e=>d.out.2.2.2.2 _ e.symm rfl)).trans (L.out.block t.m aB)
   have aO:Hid (PN w5.drew t.m l):=HQ.out.2.2.2.other (w':=w5.drew) EF
   have H5:=cb (cd au (cd ai av))
   have aP:=cA ae
   have aQ:=cA M.out.2.1
   have aR:=cA M.out.2.2
   have bA:=cb ae
   have be:J.heap.size≠t.m:=by omega
   have bf:w3.heap.size≠t.m:=by omega
   clear au ai av aj EF aL ae
   go_wp2_with fail
   go_region_held3 (fun W'=>W'.cell? ⟨S,2,none⟩=some (.map (some t.m))/\W'.cell? ⟨J.heap.size,1,none⟩=some (.int .u16 (o:Int))) (go_keep) (first
    |(refine DC _ (by rfl) _ _ (by rfl) t.m o l (by rfl) (by rfl) aO.out HK.out ?_;intro w6 j p m V h3 h4 h5;have aw:=(h4.block J.heap.size (by simpa using aQ) (by simpa using be)).trans (gC M.out.2.1);have aS:=(h4.block w3.heap.size (by simpa using aR) (by simpa using bf)).trans (gC M.out.2.2);have aT:=h4.block S (by simpa using aP) (by simpa using d.out.2.2.2.1);have bB:w6.cell? ⟨S,2,none⟩=some (.map (some t.m)):=(cS (a:=⟨S,2,none⟩) aT).trans aM;have bg:=cn aw 1;simp at bg;have y:=cb (cd m (cd V (cd h3 (cd h4 (cd h5 (cd aw aS))))));clear m V h3 h4 h5 aw aS aT aM aN)
    |fail)
   all_goals
    have q0:=cn y.out.2.2.2.2.2.1 0
    have bh:=cn y.out.2.2.2.2.2.1 1
    have q2:=cn y.out.2.2.2.2.2.1 2
    have q3:=cn y.out.2.2.2.2.2.1 3
    have p0:=cn y.out.2.2.2.2.2.2 0
    have p1:=cn y.out.2.2.2.2.2.2 1
    have p2:=cn y.out.2.2.2.2.2.2 2
    simp at q0 bh q2 q3 p0 p1 p2
    have aU:=cA y.out.2.2.2.2.2.2
    have kp:∀b,b<w.heap.size->(b≠S/\some b≠hb/\b≠t.m)->w6.heap[b]?=w.heap[b]?:=fun b af h=>by
     have z:b<w4.heap.size:=cH af s4;have e5:=H5.out.2.2.block b (by simpa using z) h.1 h.2.1;have bi:b<w5.heap.size:=cH z H5.out.2.2.size;exact(y.out.2.2.2.1.block b (by simpa using bi) (by simpa using h.2.2)).trans (e5.trans (L.out.block b af))
    have bj:=cb (ao.out w6 (kp q ay d.out.1) (kp A az d.out.2.1) (kp B aA d.out.2.2.1))
    have bk:=cb kp
    clear kp
    go_wp2_with fail
    go_at_call 135
    refine bj.out.mono ?_
    rintro e w7 ⟨rfl,a1,a2,a3,a4⟩
    have aV:=(a4.block w3.heap.size (by simpa using aU) (by simp;omega)).trans y.out.2.2.2.2.2.2
    have bl:=cn aV 0
    simp at bl
    have HA:=cb (cd a1 (cd a2 (cd a3 a4)))
    clear a1 a2 a3 a4 aV p0 p1 p2
    go_wp2
    go_ret2
    refine⟨rfl,bd,j,p,?_,?_,y.out.1,y.out.2.1,?_,HA.out.1,HA.out.2.1,HA.out.2.2.1,?_⟩
    .refine H5.out.1.keep (fun b bm=>?_);have h7:∀b,b<w6.heap.size->b≠q->b≠A->b≠B->w7.heap[b]?=w6.heap[b]?:=fun b m V h3 h4=>HA.out.2.2.2.block b m (by simp[V,h3,h4])
     have h6:∀b,b<w5.heap.size->b≠t.m->w6.heap[b]?=w5.heap[b]?:=fun b m V=>y.out.2.2.2.1.block b m (by simpa using V)
     have bC:w6.heap.size=w5.heap.size:=y.out.2.2.2.2.1;rcases bm with e|e
     .subst e;exact(h7 b (by omega) (fun e=>d.out.1.1 e.symm) (fun e=>d.out.2.1.1 e.symm) (fun e=>d.out.2.2.1.1 e.symm)).trans (h6 b aP d.out.2.2.2.1)
     .obtain⟨an,hc⟩:=H5.out.1.As e;have af:=cA hc;have bn:b≠t.m:=fun e2=>by
       obtain⟨es,g,m,_⟩:=aO.out;have ab:w5.heap[t.m]?=some (.map es g):=m;rw[<-e2,hc]at ab;cases ab
      have e6:=h6 b af bn;have nn:∀(x T:Nat) (Z:Array Value),w.heap[x]?=some (.cells Z T (0,0))->T≠5->x<w.heap.size->(x≠S/\some x≠hb/\x≠t.m)->b≠x:=fun x T Z N hT bo ho e2=>by
       have:=bk.out x bo ho;rw[<-e2,e6,hc]at this;rw[<-e2,<-this]at N;simp at N;exact hT N.2.symm
      have F:=HQ.out.1;unfold sx at F;exact(h7 b (by omega) (nn q 216 _ F (by decide) ay d.out.1) (nn A 4 _ HQ.out.2.1 (by decide) az d.out.2.1) (nn B 9 _ HQ.out.2.2.1 (by decide) aA d.out.2.2.1)).trans e6
    .rcases H5.out.2.1 with e|e|⟨x,e,hx⟩
     .exact .inl e
     .exact .inr (.inl e)
     .exact .inr (.inr ⟨x,e,cP s4 hx⟩)
    .refine y.out.2.2.1.other (HA.out.2.2.2.block t.m y.out.2.2.1.lt ?_);simp only[cQ,Qd,or_false,not_or]
     exact⟨fun e=>d.out.1.2.2 e.symm,fun e=>d.out.2.1.2.2 e.symm,fun e=>d.out.2.2.1.2.2 e.symm⟩
    .have c4:eH (S::t.m::q::A::B::hb.toList) w w4:=eH.dP L.out;have c5:=c4.trans H5.out.2.2.mQ (fun b hb=> .inl (by simp at hb⊢;rcases hb with h|h<;>simp[h]));have c6:=c5.trans (eH.wK y.out.2.2.2.1) (fun b hb=> .inl (by simp at hb;simp[hb]));exact c6.trans HA.out.2.2.2 (fun b hb=> .inl (by simp at hb;rcases hb with h|h|h<;>simp[h]))
theorem byteCells_append (l m:List UInt8):Lib.byteCells (l++m)=Lib.byteCells l++Lib.byteCells m:=by simp[Lib.byteCells]
theorem zU (a B C:Option Addr)(n c q r:Nat)(d:List ByteArray)(m:List Bool)(g:List ByteArray)(y:ByteArray)(w:World)(J:dH w a n c d)(t:eZ w B n q m)(K:dH w C n r g)(hn:n<=4)(D:∀s∈d,s.size<=8)(o:∀s∈g,s.size<=40):Calls prog 219 #[.slice a n c,eW 1 (.slice B n q) (.slice C n r) y] w fun e w'=>e= .returned (.string (iM (m.zip (d.zip g))++⟨#[101,110,100,10]⟩))/\Below w.heap.size w w':=by
 have aa:=cb (show∀x,Below w.heap.size w (w.alloc x)from fun x=>cU);have hc:=J.cap;have ak:=t.cap;have al:=K.cap;have L:=cb (fun W (h:Below w.heap.size w W)=>(J.later h).at);have M:=cb (fun W (h:Below w.heap.size w W)=>(t.later h).at);have N:=cb (fun W (h:Below w.heap.size w W)=>(K.later h).at);have ab:=cb J.len;have O:=cb t.len;have ac:=cb K.len;have ad:=cb D;have P:=cb o;have Q:∀j:Nat,(iM ((m.zip (d.zip g)).take j)).size<=236:=fun j=>by
  have h1:=rV ⟨#[]⟩ ((m.zip (d.zip g)).take j) (fun p hp=>by
   have hp:=fH hp;have h2:=(gw hp).2;exact⟨D _ (gw h2).1,o _ (gw h2).2⟩)
  have h2:((m.zip (d.zip g)).take j).length<=4:=by simp[J.len,t.len,K.len];omega
  have e0:(ByteArray.mk #[]).size=0:=rfl;unfold iM;omega
 have R:=cb Q;clear J t K D o Q;have HZ:Hid (∀(j:Nat) f k v,m[j]?=some f->d[j]?=some k->g[j]?=some v->(m.zip (d.zip g))[j]?=some (f,k,v)):=fun j f k v a b c=>by
  rw[et];exact⟨a,by rw[et];exact⟨b,c⟩⟩
 have ae:Hid ((m.zip (d.zip g)).take n=m.zip (d.zip g)):=dt (by simp;have:=O.out;omega);generalize m.zip (d.zip g)=l at*;unfold eW at*;have HI:Hid (∀W:World,Lib.IsBuilder 123 5 W.heap.size W.heap.size [] (W.alloc (Obj.cells #[Value.pointer none,Value.slice none 0 0] 123))):=fun W=> .inl ⟨PC _,.slice none 0 0,du W _,dv _ _ _ _,by simp[Value.ownBlock]⟩
 go_wp2;have H0:Hid (Lib.IsBuilder 123 5 (w.heap.size+1) (w.heap.size+1) (Lib.byteCells (iM (l.take 0)).data.toList) ((w.alloc (.cells #[.int .i64 1,.slice B n q,.slice C n r,.string y] 91)).alloc (Obj.cells #[Value.pointer none,Value.slice none 0 0] 123))/\Below (w.heap.size+1) (w.alloc (.cells #[.int .i64 1,.slice B n q,.slice C n r,.string y] 91)) ((w.alloc (.cells #[.int .i64 1,.slice B n q,.slice C n r,.string y] 91)).alloc (Obj.cells #[Value.pointer none,Value.slice none 0 0] 123))):=by
  have h1:=HI.out (w.alloc (.cells #[.int .i64 1,.slice B n q,.slice C n r,.string y] 91));rw[cF]at h1;exact⟨h1,(ct _ _).alloc (by simp) _⟩
 go_loopw [10] (fun i wr=>∃j:Nat,j<=n/\i= .int .i64 j/\Hid (Lib.IsBuilder 123 5 (w.heap.size+1) (w.heap.size+1) (Lib.byteCells (iM (l.take j)).data.toList) wr/\Below (w.heap.size+1) (w.alloc (.cells #[.int .i64 1,.slice B n q,.slice C n r,.string y] 91)) wr)) (fun i _=>n-(intOf i).toNat)
 case atStart=>exact⟨0,cG _,rfl,H0⟩
 case round=>
  obtain⟨j,hj,rfl,z⟩:=hrel;have u:Hid (Below w.heap.size w wr):=(aa.out _).trans (z.out.2.mono (by omega));have T:w.heap.size+1<=wr.heap.size:=by have:=z.out.2.size;simpa using this
  have ah:w.heap.size<wr.heap.size:=by omega
  by_cases E:j<n
  .obtain⟨k,Y⟩:∃x,d[j]?=some x:=⟨d[j]'(by rw[ab.out];exact E),cp _⟩
   obtain⟨f,t⟩:∃x,m[j]?=some x:=⟨m[j]'(by rw[O.out];exact E),cp _⟩
   obtain⟨x,Z⟩:∃x,g[j]?=some x:=⟨g[j]'(by rw[ac.out];exact E),cp _⟩
   have HX:=cb (wX (HZ.out j f k x t Y Z));have hm:=ad.out k (cu Y);have A:=P.out x (cu Z);obtain⟨kb,ko,rfl,am,an⟩:=L.out wr u.out j k Y;obtain⟨fb,fo,rfl,ao,ai⟩:=M.out wr u.out j f t;obtain⟨vb,vo,rfl,ap,aj⟩:=N.out wr u.out j x Z;have q1:wr.cell? ⟨w.heap.size,1,none⟩=some (.slice (some ⟨fb,fo,none⟩) n q):=by
    rw[z.out.2.cell (p:=⟨w.heap.size,1,none⟩) (by simp)];go_simp
   have q2:wr.cell? ⟨w.heap.size,2,none⟩=some (.slice (some ⟨vb,vo,none⟩) n r):=by
    rw[z.out.2.cell (p:=⟨w.heap.size,2,none⟩) (by simp)];go_simp
   clear Y t Z L M N HZ;have aq:=kZ A;have F:=R.out j;have ar:(iM (l.take j)).data.toList.length<=236:=by rw[gz];exact F
   cases f with
   |true=>
    have au:(ByteArray.mk #[118,97,108,117,101,32]++k++ByteArray.mk #[32]++sizedB x).size<=59:=Qt (p:=(true,k,x)) hm A;have HY:Hid (Lib.byteCells (iM (l.take j)).data.toList++Lib.strCells (ByteArray.mk #[118,97,108,117,101,32]++k++ByteArray.mk #[32]++sizedB x)=Lib.byteCells (iM (l.take (j+1))).data.toList):=by
     show _=_;rw[HX.out,ns,<-byteCells_append];congr 1
    clear HX;have g1:¬9223372036854775807<6+k.size:=by omega
    have g2:¬9223372036854775807<6+k.size+1:=by omega
    have g3:¬9223372036854775807<6+k.size+1+(sizedB x).size:=by omega
    go_wp2_with fail
    go_at_call 215;refine(qB x _ (by omega)).mono ?_;rintro e w3 ⟨rfl,af⟩;subst af;go_wp2_with fail
    go_at_call 128;generalize (ByteArray.mk #[118,97,108,117,101,32]++k++ByteArray.mk #[32]++sizedB x)=V at*;refine(Tryz.writeString (w.heap.size+1) (w.heap.size+1) _ V _ z.out.1 ?hl1 ?hl2).mono ?_;case hl1=>rw[jl];omega
    case hl2=>exact T
    rintro e w4 ⟨rfl,H,U⟩;rw[HY.out]at H;have I:Hid (Lib.IsBuilder 123 5 (w.heap.size+1) (w.heap.size+1) (Lib.byteCells (iM (l.take (j+1))).data.toList) w4/\Below (w.heap.size+1) (w.alloc (.cells #[.int .i64 1,.slice (some ⟨fb,fo,none⟩) n q,.slice (some ⟨vb,vo,none⟩) n r,.string y] 91)) w4):=⟨.inr H,z.out.2.trans U⟩
    clear H U;go_wp2;go_roundw;case rel=>exact⟨j+1,by omega,by go_num,I⟩
    case measure=>simp[intOf];omega
   |false=>
    have I:Hid (Lib.IsBuilder 123 5 (w.heap.size+1) (w.heap.size+1) (Lib.byteCells (iM (l.take (j+1))).data.toList) wr/\Below (w.heap.size+1) (w.alloc (.cells #[.int .i64 1,.slice (some ⟨fb,fo,none⟩) n q,.slice (some ⟨vb,vo,none⟩) n r,.string y] 91)) wr):=by
     have e:iM (l.take (j+1))=iM (l.take j):=by rw[HX.out];apply qm;simp[Cc]
     rw[e];exact z.out
    clear HX;go_wp2;go_roundw;case rel=>exact⟨j+1,by omega,by go_num,I⟩
    case measure=>simp[intOf];omega
  .have ag:j=n:=by omega
   subst ag;have F:=R.out j;have HR:=cb (show ByteArray.mk (iM (l.take j)).data.toList.toArray++⟨#[101,110,100,10]⟩=iM l++⟨#[101,110,100,10]⟩by rw[ae.out]);have av:(ByteArray.mk (iM (l.take j)).data.toList.toArray).size<=236:=by simpa using F
   go_wp2_with fail
   go_at_call 57;refine(Tryz.Builder_String_any (w.heap.size+1) (w.heap.size+1) _ _ z.out.1 T).mono ?_;rintro e w5 ⟨rfl,X⟩;have HE:Hid (Below w.heap.size w w5):=u.out.trans (X.mono (by omega));clear X;generalize ByteArray.mk (iM (l.take j)).data.toList.toArray=S at*;go_wp2;go_ret;exact⟨ir HR.out,HE.out⟩
section
variable (m o:Option Addr)(n g k:Nat)(d:List Bool)(b:List ByteArray)(l:ByteArray)(w:World)
theorem zV (y:eZ w m n g d)(K:dH w o n k b)(hn:n<=4)(D:n=1)(u:∀s∈b,s.size<=40):Calls prog 257 #[eW 1 (.slice m n g) (.slice o n k) l] w fun e w'=>e= .returned (.string (lL n (d.zip b)))/\Below w.heap.size w w':=by
 have L:=cb (show∀x,Below w.heap.size w (w.alloc x)from fun x=>cU);have ah:=y.cap;have ai:=K.cap;have M:=cb (fun W (h:Below w.heap.size w W)=>(y.later h).at);have N:=cb (fun W (h:Below w.heap.size w W)=>(K.later h).at);have E:=cb y.len;have O:=cb K.len;have F:=cb u;have P:∀j:Nat,(gn ((d.zip b).take j)).size<=180:=fun j=>by
  have D:=rX ⟨#[]⟩ ((d.zip b).take j) (fun p hp=>u _ (gw (fH hp)).2);have h2:((d.zip b).take j).length<=4:=by simp[y.len,K.len];omega
  have e0:(ByteArray.mk #[]).size=0:=rfl;unfold gn;omega
 have Q:=cb P;have HZ:Hid (∀(j:Nat) f v,d[j]?=some f->b[j]?=some v->(d.zip b)[j]?=some (f,v)):=fun j f v a c=>by
  rw[et];exact⟨a,c⟩
 have R:Hid ((d.zip b).take n=d.zip b):=dt (by simp;have:=E.out;omega);generalize d.zip b=r at*;unfold eW at*;have HI:Hid (∀W:World,Lib.IsBuilder 123 5 W.heap.size W.heap.size [] (W.alloc (Obj.cells #[Value.pointer none,Value.slice none 0 0] 123))):=fun W=> .inl ⟨PC _,.slice none 0 0,du W _,dv _ _ _ _,by simp[Value.ownBlock]⟩
 have S:Hid (Lib.IsBuilder 123 5 (w.heap.size+1) (w.heap.size+1) [] ((w.alloc (.cells #[.int .i64 1,.slice m n g,.slice o n k,.string l] 91)).alloc (Obj.cells #[Value.pointer none,Value.slice none 0 0] 123))/\Below (w.heap.size+1) (w.alloc (.cells #[.int .i64 1,.slice m n g,.slice o n k,.string l] 91)) ((w.alloc (.cells #[.int .i64 1,.slice m n g,.slice o n k,.string l] 91)).alloc (Obj.cells #[Value.pointer none,Value.slice none 0 0] 123))):=by
  have D:=HI.out (w.alloc (.cells #[.int .i64 1,.slice m n g,.slice o n k,.string l] 91));rw[cF]at D;exact⟨D,(ct _ _).alloc (by simp) _⟩
 subst D;go_wp2;have H0:=S.out;go_loopw [20] (fun i wr=>∃j:Nat,j<=1/\i= .int .i64 j/\Hid (Lib.IsBuilder 123 5 (w.heap.size+1) (w.heap.size+1) (Lib.byteCells ([]++(gn (r.take j)).data.toList)) wr/\Below (w.heap.size+1) (w.alloc (.cells #[.int .i64 1,.slice m 1 g,.slice o 1 k,.string l] 91)) wr)) (fun i _=>1-(intOf i).toNat)
 case atStart=>exact⟨0,cG _,rfl,H0⟩
 case round=>
  obtain⟨j,hj,rfl,t⟩:=hrel;have z:Hid (Below w.heap.size w wr):=(L.out _).trans (t.out.2.mono (by omega));have A:w.heap.size+1<=wr.heap.size:=by have:=t.out.2.size;simpa using this
  have ae:w.heap.size<wr.heap.size:=by omega
  by_cases H:j<1
  .obtain⟨f,y⟩:∃x,d[j]?=some x:=⟨d[j]'(by rw[E.out];exact H),cp _⟩
   obtain⟨x,T⟩:∃x,b[j]?=some x:=⟨b[j]'(by rw[O.out];exact H),cp _⟩
   have HX:=cb (sZ (HZ.out j f x y T));have I:=F.out x (cu T);obtain⟨U,X,rfl,aj,af⟩:=M.out wr z.out j f y;obtain⟨Y,Z,rfl,ak,ag⟩:=N.out wr z.out j x T;have q1:wr.cell? ⟨w.heap.size,1,none⟩=some (.slice (some ⟨U,X,none⟩) 1 g):=by
    rw[t.out.2.cell (p:=⟨w.heap.size,1,none⟩) (by simp)];go_simp
   have q2:wr.cell? ⟨w.heap.size,2,none⟩=some (.slice (some ⟨Y,Z,none⟩) 1 k):=by
    rw[t.out.2.cell (p:=⟨w.heap.size,2,none⟩) (by simp)];go_simp
   have al:=kZ I;have aa:=Q.out j;have am:(gn (r.take j)).data.toList.length<=180:=by rw[gz];exact aa
   cases f with
   |true=>
    have an:(ByteArray.mk #[36]++sizedB x).size<=45:=by rw[cR];have e:(ByteArray.mk #[36]).size=1:=rfl;omega
    have HY:Hid (Lib.byteCells ([]++(gn (r.take j)).data.toList)++Lib.strCells (ByteArray.mk #[36]++sizedB x)=Lib.byteCells ([]++(gn (r.take (j+1))).data.toList)):=by
     show _=_;rw[HX.out,ns,<-byteCells_append,fx];congr 2
    go_wp2_with fail
    refine(qB x _ (by omega)).mono ?_;rintro e w3 ⟨rfl,ab⟩;subst ab;go_wp2_with fail
    generalize (ByteArray.mk #[36]++sizedB x)=V at*;refine(Tryz.writeString (w.heap.size+1) (w.heap.size+1) _ V _ t.out.1 ?hl1 ?hl2).mono ?_;case hl1=>rw[jl,cI];simp only[fk];omega
    case hl2=>exact A
    rintro e J ⟨rfl,q,B⟩;rw[HY.out]at q;have C:Hid (Lib.IsBuilder 123 5 (w.heap.size+1) (w.heap.size+1) (Lib.byteCells ([]++(gn (r.take (j+1))).data.toList)) J/\Below (w.heap.size+1) (w.alloc (.cells #[.int .i64 1,.slice (some ⟨U,X,none⟩) 1 g,.slice (some ⟨Y,Z,none⟩) 1 k,.string l] 91)) J):=⟨.inr q,t.out.2.trans B⟩
    go_wp2;go_roundw;case rel=>exact⟨j+1,by omega,by go_num,C⟩
    case measure=>simp[intOf];omega
   |false=>
    have HY:Hid (Lib.byteCells ([]++(gn (r.take j)).data.toList)++Lib.strCells (ByteArray.mk #[36,45,49,10])=Lib.byteCells ([]++(gn (r.take (j+1))).data.toList)):=by
     show _=_;rw[HX.out,ns,<-byteCells_append,fx];congr 2
    go_wp2_with fail
    refine(Tryz.writeString (w.heap.size+1) (w.heap.size+1) _ (ByteArray.mk #[36,45,49,10]) _ t.out.1 ?hl1 ?hl2).mono ?_;case hl1=>rw[jl,cI];simp only[fk];have e:(ByteArray.mk #[36,45,49,10]).size=4:=rfl;omega
    case hl2=>exact A
    rintro e J ⟨rfl,q,B⟩;rw[HY.out]at q;have C:Hid (Lib.IsBuilder 123 5 (w.heap.size+1) (w.heap.size+1) (Lib.byteCells ([]++(gn (r.take (j+1))).data.toList)) J/\Below (w.heap.size+1) (w.alloc (.cells #[.int .i64 1,.slice (some ⟨U,X,none⟩) 1 g,.slice (some ⟨Y,Z,none⟩) 1 k,.string l] 91)) J):=⟨.inr q,t.out.2.trans B⟩
    go_wp2;go_roundw;case rel=>exact⟨j+1,by omega,by go_num,C⟩
    case measure=>simp[intOf];omega
  .have ac:j=1:=by omega
   subst ac;have HR:=cb (show ByteArray.mk ([]++(gn (r.take 1)).data.toList).toArray=lL 1 r by rw[R.out];simp[lL]);go_wp2_with fail
   refine(Tryz.Builder_String_any (w.heap.size+1) (w.heap.size+1) _ _ t.out.1 A).mono ?_;rintro e w5 ⟨rfl,ad⟩;have HE:Hid (Below w.heap.size w w5):=z.out.trans (ad.mono (by omega));rw[HR.out];go_wp2;go_ret;exact⟨ir rfl,HE.out⟩
theorem zh (z:eZ w m n g d)(L:dH w o n k b)(hn:n<=4)(M:2<=n)(y:∀s∈b,s.size<=40):Calls prog 257 #[eW 1 (.slice m n g) (.slice o n k) l] w fun e w'=>e= .returned (.string (lL n (d.zip b)))/\Below w.heap.size w w':=by
 have N:=cb (show∀x,Below w.heap.size w (w.alloc x)from fun x=>cU);have ah:=z.cap;have ai:=L.cap;have O:=cb (fun W (h:Below w.heap.size w W)=>(z.later h).at);have P:=cb (fun W (h:Below w.heap.size w W)=>(L.later h).at);have E:=cb z.len;have Q:=cb L.len;have F:=cb y;have R:∀j:Nat,(gn ((d.zip b).take j)).size<=180:=fun j=>by
  have M:=rX ⟨#[]⟩ ((d.zip b).take j) (fun p hp=>y _ (gw (fH hp)).2);have h2:((d.zip b).take j).length<=4:=by simp[z.len,L.len];omega
  have e0:(ByteArray.mk #[]).size=0:=rfl;unfold gn;omega
 have S:=cb R;have HZ:Hid (∀(j:Nat) f v,d[j]?=some f->b[j]?=some v->(d.zip b)[j]?=some (f,v)):=fun j f v a c=>by
  rw[et];exact⟨a,c⟩
 have T:Hid ((d.zip b).take n=d.zip b):=dt (by simp;have:=E.out;omega);generalize d.zip b=r at*;unfold eW at*;have HI:Hid (∀W:World,Lib.IsBuilder 123 5 W.heap.size W.heap.size [] (W.alloc (Obj.cells #[Value.pointer none,Value.slice none 0 0] 123))):=fun W=> .inl ⟨PC _,.slice none 0 0,du W _,dv _ _ _ _,by simp[Value.ownBlock]⟩
 have H:Hid (Lib.IsBuilder 123 5 (w.heap.size+1) (w.heap.size+1) [] ((w.alloc (.cells #[.int .i64 1,.slice m n g,.slice o n k,.string l] 91)).alloc (Obj.cells #[Value.pointer none,Value.slice none 0 0] 123))/\Below (w.heap.size+1) (w.alloc (.cells #[.int .i64 1,.slice m n g,.slice o n k,.string l] 91)) ((w.alloc (.cells #[.int .i64 1,.slice m n g,.slice o n k,.string l] 91)).alloc (Obj.cells #[Value.pointer none,Value.slice none 0 0] 123))):=by
  have M:=HI.out (w.alloc (.cells #[.int .i64 1,.slice m n g,.slice o n k,.string l] 91));rw[cF]at M;exact⟨M,(ct _ _).alloc (by simp) _⟩
 have aj:((n:Int)>1):=by omega
 have ak:=AW n;have dL:=fT n;go_enter func257,ntmps257;go_wp2_with fail
 refine(sX n _ (by omega)).mono ?_;rintro e w1 ⟨rfl,U⟩;subst U;generalize X:(ByteArray.mk #[42]++gh n++ByteArray.mk #[10])=t at*;go_wp2_with fail
 refine(Tryz.writeString (w.heap.size+1) (w.heap.size+1) [] t _ H.out.1 (by simp;omega) (by simp)).mono ?_;rintro e Y ⟨rfl,q,Z⟩;have H0:Hid (Lib.IsBuilder 123 5 (w.heap.size+1) (w.heap.size+1) (Lib.byteCells (t.data.toList++(gn (r.take 0)).data.toList)) Y/\Below (w.heap.size+1) (w.alloc (.cells #[.int .i64 1,.slice m n g,.slice o n k,.string l] 91)) Y):=⟨.inr (by simpa [Lib.strCells_eq,gn]using q),H.out.2.trans Z⟩
 have qz:Y.cell? ⟨w.heap.size,1,none⟩=some (.slice m n g):=by
  rw[H0.out.2.cell (p:=⟨w.heap.size,1,none⟩) (by simp)];go_simp
 have al:t.data.toList.length<=4:=by rw[gz];omega
 go_wp2;go_loopw [20] (fun i wr=>∃j:Nat,j<=n/\i= .int .i64 j/\Hid (Lib.IsBuilder 123 5 (w.heap.size+1) (w.heap.size+1) (Lib.byteCells (t.data.toList++(gn (r.take j)).data.toList)) wr/\Below (w.heap.size+1) (w.alloc (.cells #[.int .i64 1,.slice m n g,.slice o n k,.string l] 91)) wr)) (fun i _=>n-(intOf i).toNat)
 case atStart=>exact⟨0,cG _,rfl,H0⟩
 case round=>
  obtain⟨j,hj,rfl,u⟩:=hrel;have A:Hid (Below w.heap.size w wr):=(N.out _).trans (u.out.2.mono (by omega));have B:w.heap.size+1<=wr.heap.size:=by have:=u.out.2.size;simpa using this
  have ae:w.heap.size<wr.heap.size:=by omega
  by_cases I:j<n
  .obtain⟨f,z⟩:∃x,d[j]?=some x:=⟨d[j]'(by rw[E.out];exact I),cp _⟩
   obtain⟨x,hx⟩:∃x,b[j]?=some x:=⟨b[j]'(by rw[Q.out];exact I),cp _⟩
   have HX:=cb (sZ (HZ.out j f x z hx));have J:=F.out x (cu hx);obtain⟨fb,fo,rfl,am,af⟩:=O.out wr A.out j f z;obtain⟨vb,vo,rfl,an,ag⟩:=P.out wr A.out j x hx;have q1:wr.cell? ⟨w.heap.size,1,none⟩=some (.slice (some ⟨fb,fo,none⟩) n g):=by
    rw[u.out.2.cell (p:=⟨w.heap.size,1,none⟩) (by simp)];go_simp
   have q2:wr.cell? ⟨w.heap.size,2,none⟩=some (.slice (some ⟨vb,vo,none⟩) n k):=by
    rw[u.out.2.cell (p:=⟨w.heap.size,2,none⟩) (by simp)];go_simp
   have ao:=kZ J;have aa:=S.out j;have ap:(gn (r.take j)).data.toList.length<=180:=by rw[gz];exact aa
   cases f with
   |true=>
    have aq:(ByteArray.mk #[36]++sizedB x).size<=45:=by rw[cR];have e:(ByteArray.mk #[36]).size=1:=rfl;omega
    have HY:Hid (Lib.byteCells (t.data.toList++(gn (r.take j)).data.toList)++Lib.strCells (ByteArray.mk #[36]++sizedB x)=Lib.byteCells (t.data.toList++(gn (r.take (j+1))).data.toList)):=by
     show _=_;rw[HX.out,ns,<-byteCells_append,fx];congr 2
    go_wp2_with fail
    refine(qB x _ (by omega)).mono ?_;rintro e w3 ⟨rfl,ab⟩;subst ab;go_wp2_with fail
    generalize (ByteArray.mk #[36]++sizedB x)=V at*;refine(Tryz.writeString (w.heap.size+1) (w.heap.size+1) _ V _ u.out.1 ?hl1 ?hl2).mono ?_;case hl1=>rw[jl,cI];omega
    case hl2=>exact B
    rintro e K ⟨rfl,q,C⟩;rw[HY.out]at q;have D:Hid (Lib.IsBuilder 123 5 (w.heap.size+1) (w.heap.size+1) (Lib.byteCells (t.data.toList++(gn (r.take (j+1))).data.toList)) K/\Below (w.heap.size+1) (w.alloc (.cells #[.int .i64 1,.slice (some ⟨fb,fo,none⟩) n g,.slice (some ⟨vb,vo,none⟩) n k,.string l] 91)) K):=⟨.inr q,u.out.2.trans C⟩
    go_wp2;go_roundw;case rel=>exact⟨j+1,by omega,by go_num,D⟩
    case measure=>simp[intOf];omega
   |false=>
    have HY:Hid (Lib.byteCells (t.data.toList++(gn (r.take j)).data.toList)++Lib.strCells (ByteArray.mk #[36,45,49,10])=Lib.byteCells (t.data.toList++(gn (r.take (j+1))).data.toList)):=by
     show _=_;rw[HX.out,ns,<-byteCells_append,fx];congr 2
    go_wp2_with fail
    refine(Tryz.writeString (w.heap.size+1) (w.heap.size+1) _ (ByteArray.mk #[36,45,49,10]) _ u.out.1 ?hl1 ?hl2).mono ?_;case hl1=>rw[jl,cI];have e:(ByteArray.mk #[36,45,49,10]).size=4:=rfl;omega
    case hl2=>exact B
    rintro e K ⟨rfl,q,C⟩;rw[HY.out]at q;have D:Hid (Lib.IsBuilder 123 5 (w.heap.size+1) (w.heap.size+1) (Lib.byteCells (t.data.toList++(gn (r.take (j+1))).data.toList)) K/\Below (w.heap.size+1) (w.alloc (.cells #[.int .i64 1,.slice (some ⟨fb,fo,none⟩) n g,.slice (some ⟨vb,vo,none⟩) n k,.string l] 91)) K):=⟨.inr q,u.out.2.trans C⟩
    go_wp2;go_roundw;case rel=>exact⟨j+1,by omega,by go_num,D⟩
    case measure=>simp[intOf];omega
  .have ac:j=n:=by omega
   subst ac;have HR:=cb (show ByteArray.mk (t.data.toList++(gn (r.take j)).data.toList).toArray=lL j r by rw[T.out];rw[<-X];unfold lL;rw[cD (by omega)];apply qm;simp[List.append_assoc]);go_wp2_with fail
   refine(Tryz.Builder_String_any (w.heap.size+1) (w.heap.size+1) _ _ u.out.1 B).mono ?_;rintro e w5 ⟨rfl,ad⟩;have HE:Hid (Below w.heap.size w w5):=A.out.trans (ad.mono (by omega));rw[HR.out];go_wp2;go_ret;exact⟨ir rfl,HE.out⟩
end
variable {o id:Int}{n p:Nat}{w:World}{q:Option Addr}
theorem vi (a q t:Option Addr)(n c p r:Nat)(m:List ByteArray)(l:List Bool)(k:List ByteArray)(b v:ByteArray)(u:Bool)(i:Int)(g:ByteArray)(id:Int)(w:World)(o:dH w a n c m)(A:eZ w q n p l)(B:dH w t n r k)(C:n<=4)(h:∀s∈m,s.size<=8)(f:∀s∈k,s.size<=40):Calls prog 212 #[.agg #[],db 1 (.slice a n c) b v u i,eW 1 (.slice q n p) (.slice t n r) g,.int .i64 id] w fun e w'=>e= .returned (.string (iM (l.zip (m.zip k))++⟨#[101,110,100,10]⟩))/\Below w.heap.size w w':=by
 have d:=cb (show∀x y z,Below w.heap.size w (((w.alloc x).alloc y).alloc z)from fun x y z=>(cU.alloc (by simp) _).alloc (by simp;omega) _);have D:=cb (fun x y z=>zU a q t n c p r m l k g _ (o.later (d.out x y z)) (A.later (d.out x y z)) (B.later (d.out x y z)) C h f);unfold db eW at*;go_enter func212,ntmps212;go_wp2_with fail
 refine(D.out _ _ _).mono ?_;rintro e F ⟨rfl,j⟩;have E:=cb ((d.out _ _ _).trans (j.mono (by simp;omega)));go_wp2;go_ret;exact⟨rfl,E.out⟩
theorem vm (o:Int)(m:Value)(q t:Option Addr)(n p r:Nat)(l:List Bool)(k:List ByteArray)(b v:ByteArray)(u:Bool)(i:Int)(g:ByteArray)(id:Int)(w:World)(f:eZ w q n p l)(h:dH w t n r k)(A:1<=n)(j:n<=4)(c:∀s∈k,s.size<=40):Calls prog 252 #[.agg #[],db o m b v u i,eW 1 (.slice q n p) (.slice t n r) g,.int .i64 id] w fun e w'=>e= .returned (.string (lL n (l.zip k)))/\Below w.heap.size w w':=by
 have a:=cb (show∀x y z,Below w.heap.size w (((w.alloc x).alloc y).alloc z)from fun x y z=>(cU.alloc (by simp) _).alloc (by simp;omega) _);have B:Hid (∀x y z,Calls prog 257 #[eW 1 (.slice q n p) (.slice t n r) g] (((w.alloc x).alloc y).alloc z) fun e w'=>e= .returned (.string (lL n (l.zip k)))/\Below (((w.alloc x).alloc y).alloc z).heap.size (((w.alloc x).alloc y).alloc z) w'):=fun x y z=>by
  by_cases C:n=1
  .exact zV q t n p r l k g _ (f.later (a.out x y z)) (h.later (a.out x y z)) j C c
  .exact zh q t n p r l k g _ (f.later (a.out x y z)) (h.later (a.out x y z)) j (by omega) c
 unfold db eW at*;go_enter func252,ntmps252;go_wp2_with fail
 refine(B.out _ _ _).mono ?_;rintro e E ⟨rfl,d⟩;have D:=cb ((a.out _ _ _).trans (d.mono (by simp;omega)));go_wp2;go_ret;exact⟨rfl,D.out⟩
def gZ (d o j:Int)(m:List ByteArray)(l:List Bool)(k:List ByteArray)(g:ByteArray)(id:Int):ByteArray:=
 if d=1 then(if j=1 then iM (l.zip (m.zip k))++⟨#[101,110,100,10]⟩else oV j g)
 else if d=2 then(if j=1 then gO 2 (bif l.headD false then 0 else 1) 0 (k.headD ⟨#[]⟩).size id++k.headD ⟨#[]⟩else gO 2 (AV j) 0 0 (QA o id))
 else(if j=1 then lL m.length (l.zip k)else oW j g)
structure Found (ss:List ByteArray)(bs:List Bool)(vs:List ByteArray):Prop where
 bl:bs.length=ss.length
 vl:vs.length=ss.length
 l1:1<=ss.length
 l4:ss.length<=4
 k8:∀s∈ss,s.size<=8
 v40:∀s∈vs,s.size<=40
 ok:∀p∈bs.zip vs,iQ p=true
theorem iK {m:List ByteArray}{b:ByteArray}{j:Int}{l:List Bool}{k:List ByteArray}{g:ByteArray}(h:eI o m b j l k g=true):(j=1/\o=1/\Found m l k)\/(j≠1/\(j=2\/j=3\/j=4\/j=5)/\(j=5->g.size<=8)):=by
 unfold eI at h;rw[cO]at h;obtain⟨n,a⟩:=h;by_cases d:j=1
 .subst d;rw[cN rfl,cO,cX]at a;obtain⟨rfl,a⟩:=a;left;refine⟨rfl,rfl,?_⟩;have R:=nj (show fp 1 m b=true by simpa using n);unfold kA at a;rw[cO,cO,cX,cX]at a;obtain⟨⟨t,u⟩,c⟩:=a;have c:=jN.1 c;refine⟨by omega,by omega,R.xn,R.yu,R.keys,?_,c⟩;intro s p;obtain⟨i,v,rfl⟩:=dG.1 p;have q:(l[i]'(by omega),k[i])∈l.zip k:=dG.2 ⟨i,by simp;omega,by simp⟩;have:=c _ q;unfold iQ at this;rw[cO,cX]at this;simp only at this;omega
 .right;rw[cD d]at a;refine⟨d,?_⟩;by_cases e:j=2
  .exact⟨.inl e,fun h=>by omega⟩
  rw[cD e]at a;by_cases r:j=3\/j=4
  .exact⟨by omega,fun h=>by omega⟩
  rw[cD r]at a;by_cases f:j=5
  .rw[cN f]at a;unfold lv at a;rw[cO]at a;have:=a.1;simp only[eF,cO,cX]at this;omega
  .rw[cD f]at a;cases a
theorem yk (h:gI o n id=true):0<=id/\id<=65535/\(o=1->n<=1):=by
 unfold gI at h;simp at h;omega
theorem Pd:jY 2 o n id=gI o n id:=by
 unfold jY uf;simp
theorem AB {a:Type}{l:List a}(h:l.length=1):∃x,l=[x]:=by
 match l,h with
 | [x],_=>exact⟨x,rfl⟩
theorem wm {f:Bool}(h:eZ w q n p [f]):n=1/\1<=p/\∃b o,q=some ⟨b,o,none⟩/\b<w.heap.size/\w.cell? ⟨b,o,none⟩=some (.bool f):=by
 have a:=h.len;have c:=h.cap;subst a;obtain⟨b,o,d,e,g⟩:=h.at 0 f rfl;exact⟨rfl,c,b,o,d,e,g⟩
theorem yJ {f:ByteArray}(h:dH w q n p [f]):n=1/\1<=p/\∃b o,q=some ⟨b,o,none⟩/\b<w.heap.size/\w.cell? ⟨b,o,none⟩=some (.string f):=by
 have a:=h.len;have c:=h.cap;subst a;obtain⟨b,o,d,e,g⟩:=h.at 0 f rfl;exact⟨rfl,c,b,o,d,e,g⟩
section
variable (d o:Int)(a:Option Addr)(n c:Nat)(m:List ByteArray)(b v:ByteArray)(u:Bool)(i:Int)(j:Int)(q t:Option Addr)(s p y r:Nat)(l:List Bool)(k:List ByteArray)(g:ByteArray)(id:Int)(w:World)
theorem KZ (E:dH w a n c m)(z:b.size<=maxLen)(B:eZ w q s p l)(C:dH w t y r k)(K:g.size<=maxLen):Calls prog 87 #[.int .i64 d,db o (.slice a n c) b v u i,eW j (.slice q s p) (.slice t y r) g,.int .i64 id] w fun e w'=>e= .returned (Du (eI o m b j l k g&&jY d o n id) (gZ d o j m l k g id))/\Below w.heap.size w w':=by
 have A:=E.len;have M:=B.len;have N:=C.len;by_cases R:d=1
 .subst R;rcases h:eI o m b j l k g with _|_
  .exact IZ o a n c m b v u i j q t s p y r l k g id w E z B C K h
  .refine Fv o a n c m b v u i j q t s p y r l k g id w E z B C K h (gZ 1 o j m l k g id) fun W H=>?_
   rcases iK h with⟨rfl,rfl,F⟩|⟨L,P,Q⟩
   .obtain rfl:s=n:=by rw[<-M,<-A];exact F.bl
    obtain rfl:y=s:=by rw[<-N,<-A];exact F.vl
    exact vi a q t _ c p r m l k b v u i g id W (E.later H) (B.later H) (C.later H) (by rw[<-A];exact F.l4) F.k8 F.v40
   .have e:gZ 1 o j m l k g id=oV j g:=by unfold gZ;rw[cN rfl,cD L]
    rw[e];exact rW o _ b v u i j _ _ g id W P Q
 by_cases S:d=2
 .subst S;rcases h:eI o m b j l k g with _|_
  .exact Rt o a n c m b v u i j q t s p y r l k g id w E z B C K h
  .rw[Pd];rcases D:gI o n id with _|_
   .exact DI o a n c m b v u i j q t s p y r l k g id w E z B C K h D
   .obtain⟨Z,i1,aa⟩:=yk D;refine Fw o a n c m b v u i j q t s p y r l k g id w E z B C K h D (gZ 2 o j m l k g id) fun W H=>?_
    rcases iK h with⟨rfl,rfl,F⟩|⟨L,P,Q⟩
    .have O:m.length=1:=by have:=F.l1;omega
     obtain⟨f,rfl⟩:=AB (F.bl.trans O);obtain⟨x,rfl⟩:=AB (F.vl.trans O);obtain⟨rfl,T,fb,fo,rfl,U,I⟩:=wm (B.later H);obtain⟨rfl,V,vb,vo,rfl,X,J⟩:=yJ (C.later H);have hx:=F.v40 x (by simp);exact uY _ b v u i f x fb fo p vb vo r g id W Z i1 hx T V U X I J
    .have e:gZ 2 o j m l k g id=gO 2 (AV j) 0 0 (QA o id):=by unfold gZ;rw[cD (by decide),cN rfl,cD L]
     rw[e];exact rR o _ b v u i j _ _ g id W L Z i1
 by_cases Y:d=3
 .subst Y;rcases h:eI o m b j l k g with _|_
  .exact Ru o a n c m b v u i j q t s p y r l k g id w E z B C K h
  .refine Fx o a n c m b v u i j q t s p y r l k g id w E z B C K h (gZ 3 o j m l k g id) fun W H=>?_
   rcases iK h with⟨rfl,rfl,F⟩|⟨L,P,Q⟩
   .obtain rfl:s=n:=by rw[<-M,<-A];exact F.bl
    obtain rfl:y=s:=by rw[<-N,<-A];exact F.vl
    have e:gZ 3 1 1 m l k g id=lL y (l.zip k):=by unfold gZ;rw[cD (by decide),cD (by decide),cN rfl,A]
    rw[e];exact vm 1 _ q t _ p r l k b v u i g id W (B.later H) (C.later H) (by rw[<-A];exact F.l1) (by rw[<-A];exact F.l4) F.v40
   .have e:gZ 3 o j m l k g id=oW j g:=by unfold gZ;rw[cD (by decide),cD (by decide),cD L]
    rw[e];exact rY o _ b v u i j _ _ g id W P Q
 have e:jY d o n id=false:=by unfold jY uf;simp[R,S,Y]
 rw[e,kH];exact DH d o _ b v u i j _ _ g id w R S Y
theorem tp (L:dH w a n c m)(B:b.size<=maxLen)(E:eZ w q s p l)(H:dH w t y r k)(M:g.size<=maxLen):Calls prog 104 #[.int .i64 d,db o (.slice a n c) b v u i,eW j (.slice q s p) (.slice t y r) g,.int .i64 id] w fun e w'=>e= .returned (Du (eI o m b j l k g&&jY d o n id) (gZ d o j m l k g id))/\Below w.heap.size w w':=by
 have C:=L.len;have N:=E.len;have O:=H.len;rcases A:eI o m b j l k g with _|_
 .exact BN d o a n c m b v u i j q t s p y r l k g id w L B E H M A
 rcases z:jY d o n id with _|_
 .exact BO d o a n c m b v u i j q t s p y r l k g id w L B E H M A z
 by_cases g1:d=1
 .subst g1;refine ui o a n c m b v u i j q t s p y r l k g id w L B E H M A (gZ 1 o j m l k g id) fun W I=>?_
  rcases iK A with⟨rfl,rfl,F⟩|⟨J,P,Q⟩
  .obtain rfl:s=n:=by rw[<-N,<-C];exact F.bl
   obtain rfl:y=s:=by rw[<-O,<-C];exact F.vl
   exact yQ a q t _ c p r m l k b v u i g W (L.later I) (E.later I) (H.later I) (by rw[<-C];exact F.l4) F.k8 F.v40
  .have e:gZ 1 o j m l k g id=oV j g:=by unfold gZ;rw[cN rfl,cD J]
   rw[e];exact ti o _ b v u i j _ _ g W P Q
 by_cases g2:d=2
 .subst g2;have R:=z;obtain⟨V,X,ab⟩:=yk R;by_cases h4:o=4
  .subst h4;refine tl a n c m b v u i j q t s p y r l k g id w L B E H M A z (gZ 2 4 j m l k g id) fun W I=>?_
   rcases iK A with⟨rfl,h,F⟩|⟨J,P,Q⟩
   .cases h
   .have e:gZ 2 4 j m l k g id=gO 2 (AV j) 0 0 0:=by unfold gZ;rw[cD (by decide),cN rfl,cD J];rfl
    rw[e];exact pD j _ _ g 0 W J (by decide) (by decide)
  .refine zK o a n c m b v u i j q t s p y r l k g id w L B E H M (by simp_all) A z (gZ 2 o j m l k g id) fun W I=>?_
   rcases iK A with⟨rfl,rfl,F⟩|⟨J,P,Q⟩
   .have S:m.length=1:=by have:=F.l1;omega
    obtain⟨f,rfl⟩:=AB (F.bl.trans S);obtain⟨x,rfl⟩:=AB (F.vl.trans S);obtain⟨rfl,T,fb,fo,rfl,U,D⟩:=wm (E.later I);obtain⟨rfl,Y,vb,vo,rfl,Z,K⟩:=yJ (H.later I);have hx:=F.v40 x (by simp);cases f with
    |true=>exact zJ x fb fo p vb vo r g id W V X hx T Y U Z D K
    |false=>
     have ho:=F.ok (false,x) (by simp);have aa:x=⟨#[]⟩:=by
      unfold iQ at ho;simp at ho;apply qm;simpa using ho.2
     subst aa;have e:gZ 2 1 1 m [false] [⟨#[]⟩] g id=gO 2 1 0 0 id:=by
      unfold gZ;show gO 2 1 0 0 id++⟨#[]⟩=_;apply qm;simp
     exact BK fb fo p _ g id W V X T U D
   .have e:gZ 2 o j m l k g id=gO 2 (AV j) 0 0 id:=by unfold gZ;rw[cD (by decide),cN rfl,cD J];unfold QA;rw[cD h4]
    rw[e];exact pD j _ _ g id W J V X
 have g3:d=3:=by
  unfold jY uf at z;simp[g1,g2]at z;exact z
 subst g3;refine uj o a n c m b v u i j q t s p y r l k g id w L B E H M A (gZ 3 o j m l k g id) fun W I=>?_
 rcases iK A with⟨rfl,rfl,F⟩|⟨J,P,Q⟩
 .obtain rfl:s=n:=by rw[<-N,<-C];exact F.bl
  obtain rfl:y=s:=by rw[<-O,<-C];exact F.vl
  have e:gZ 3 1 1 m l k g id=lL y (l.zip k):=by unfold gZ;rw[cD (by decide),cD (by decide),cN rfl,C]
  rw[e];exact yR q t _ p r l k g W (E.later I) (H.later I) (by rw[<-C];exact F.l4) F.v40
 .have e:gZ 3 o j m l k g id=oW j g:=by unfold gZ;rw[cD (by decide),cD (by decide),cD J]
  rw[e];exact tj j _ _ g W P Q
end
end Go.Proofs.YtlonjggfnleolaaGreatDoor
namespace Go.Proofs.YtlonjggfnleolaaGreatDoor
open Go.RowKit Go.Shelf Go.Proofs.Tryz
open Go.ChangeMaps (setBlock)
set_option linter.unusedVariables false
structure QD where
 k:Int
 kv:Value
 val:ByteArray
 wd:ByteArray
 ft:Bool
 Pk:Int
 n:Nat
 fa:Bool
 re:Bool
 yv:Value
 vv:Value
def BD (d:QD):Obj:=sx d.k d.kv d.val d.wd d.ft d.Pk (d.n:Int) d.fa d.re d.yv d.vv
def sr (d:QD)(c:Nat):QD:={d with n:=d.n-c,fa:=d.fa || decide (0<c)}
def QV:Value->Nat
 | .agg a=>(match a.toList with| [_,.pointer (some b),_]=>b.block|_=>0)
 |_=>0
theorem vA (C q:Nat)(i:Int):QV (gS C q i)=q:=rfl
def nV (a:List MapEntry)(q:Nat):Nat:=a.countP (fun e=>QV e.val==q)
theorem vU (a:List MapEntry)(e:MapEntry)(q:Nat):nV (a++[e]) q=nV a q+(if QV e.val=q then 1 else 0):=by
 unfold nV;by_cases h:QV e.val=q<;>simp[h]
def Fa (w:World)(r:Nat):Nat:=match w.heap[r]?with|some (.mapIter _ _ seen _)=>seen.size|_=>0
section
variable {P:Program}(w:World){b:Array Oper}{rest:List Oper}{o:Oper}{a:Act}{Q:Exit->Act->World->Prop}
end
theorem run_range_map (w:World)(m:Nat)(b:Array MapEntry)(a:Nat)(h:w.heap[m]?=some (.map b a)):(Instr.range 141 (.map (some m))).run prog w= .ok (.pointer (some ⟨w.heap.size,0,none⟩)) (w.alloc (.mapIter (some m) a #[] a)):=by
 simp[Instr.range,run_underlying underlying141,MapKept.run_getObj_map h,Result.andThen,newObj,Sem.run]
end Go.Proofs.YtlonjggfnleolaaGreatDoor
namespace Go.Proofs.YtlonjggfnleolaaGreatDoor
open Go.RowKit Go.Shelf Go.Proofs.Tryz
variable {w wr:World}{S a:Nat}{t:Cf}{g:Array MapEntry}{i:Nat->Option QD}{seen:Array Nat}{c f:List MapEntry}{e:MapEntry}
structure qS (w wr:World)(S:Nat)(t:Cf)(es:Array MapEntry)(clock:Nat)(qd:Nat->Option QD)(seen:Array Nat)(vis rem:List MapEntry):Prop where
 it:wr.heap[w.heap.size]?=some (.mapIter (some t.m) clock seen clock)
 sn:seen.toList=vis.map (·.born)
 pm:(vis++rem).Perm es.toList
 sv:wr.heap[S]?=some (MD {t with dn:=true} (.slice none 0 0) 0 false false)
 mp:wr.heap[t.m]?=some (.map es clock)
 qs:∀q d,qd q=some d->wr.heap[q]?=some (BD (sr d (nV vis q)))
 os:wr.os=w.os
 tape:wr.tape=w.tape
 output:wr.output=w.output
 size:w.heap.size<wr.heap.size
 fr:∀b,b<w.heap.size->b≠S->qd b=none->wr.heap[b]?=w.heap[b]?
theorem ya (d:QD)(c:Nat)(h:c+1<=d.n):(sr d c).n=(d.n-(c+1))+1/\sr d (c+1)={sr d c with n:=d.n-(c+1),fa:=true}:=by
 unfold sr;refine⟨by grind,by simp⟩
theorem qS.left (h:qS w wr S t g a i seen c f)(b:e∈(leftOf g seen).toList):e∈g.toList/\e∈f:=by
 unfold leftOf at b;simp at b;obtain⟨d,j⟩:=b;refine⟨by grind,?_⟩;have k:=h.pm.mem_iff.2 (by simpa using d);rcases cr.1 k with h4|h4
 .exfalso;apply j;have:e.born∈seen.toList:=by rw[h.sn];exact dA.2 ⟨e,h4,rfl⟩
  simpa using this
 .exact h4
theorem qS.over (h:qS w wr S t g a i seen c f)(d:(g.toList.map (·.born)).Nodup)(e:(leftOf g seen).size=0):f=[]:=by
 cases f with
 |nil=>rfl
 |cons x f=>
  have l:x∈g.toList:=h.pm.mem_iff.1 (by simp);have b:=(h.pm.map (·.born)).nodup_iff.2 d;rw[dF,eu]at b;have j:x.born∉seen.toList:=by
   rw[h.sn];intro k;exact(fJ.1 b).2.2 _ k _ (by simp) rfl
  have:x∈(leftOf g seen).toList:=by
   unfold leftOf;simp;exact⟨by simp_all,by simp_all⟩
  rw[oH e]at this;simp at this
theorem AP (h:qS w wr S t g a i seen c f):Fa wr w.heap.size+f.length=g.size:=by
 unfold Fa;rw[h.it];have b:=h.pm.length_eq;have d:=congrArg List.length h.sn;simp at b d;simp only
 omega
theorem qS.more {p z:World}(h:qS w wr S t g a i seen c f)(N:e∈f){q:Nat}{d:QD}(C:QV e.val=q)(P:i q=some d)(r:q<w.heap.size/\q≠S/\q≠t.m)(D:S<w.heap.size)(E:t.m<w.heap.size)(Q:S≠t.m)(s:∀q d,i q=some d->q<w.heap.size/\q≠S/\q≠t.m)(I:nV g.toList q<=d.n)(J:p.heap[w.heap.size]?=some (.mapIter (some t.m) a (seen.push e.born) a))(u:eH [w.heap.size] wr p){O:Obj}(R:z.heap[q]?=some (BD {sr d (nV c q)with n:=d.n-(nV c q+1),fa:=true}))(o:eH [q] (p.alloc O) z):∃k,k.length+1=f.length/\qS w z S t g a i (seen.push e.born) (c++[e]) k:=by
 obtain⟨l,m,rfl⟩:=List.append_of_mem N;have v:((c++[e])++(l++m)).Perm g.toList:=by
  refine List.Perm.trans ?_ h.pm;rw[fx];exact oB c (show(e::(l++m)).Perm (l++e::m)from List.perm_middle.symm)
 have T:nV c q+1<=d.n:=by
  have V:nV ((c++[e])++(l++m)) q=nV g.toList q:=v.countP_eq _;have U:nV ((c++[e])++(l++m)) q=nV (c++[e]) q+nV (l++m) q:=by unfold nV;rw[qf]
  rw[vU,cN C]at U;omega
 have F:p.heap.size<=(p.alloc O).heap.size:=by simp
 have A:∀b,b<wr.heap.size->b≠w.heap.size->b≠q->z.heap[b]?=wr.heap[b]?:=fun b x K L=>by
  have H:=cH x u.size;exact(o.block b (by omega) (by simp_all)).trans ((cC _ _ _ H).trans (u.block b x (by grind)))
 have y:=cA J;refine⟨l++m,by simp;omega,⟨?_,?_,v,?_,?_,fun B M j=>?_,?_,?_,?_,?_,fun b x K L=>?_⟩⟩
 .exact(o.block w.heap.size (by omega) (by simp;omega)).trans ((cC _ _ _ y).trans J)
 .rw[Array.toList_push,h.sn,dF];rfl
 .exact(A S (pK D h.size) (by omega) (fun e=>r.2.1 e.symm)).trans h.sv
 .exact(A t.m (pK E h.size) (by omega) (fun e=>r.2.2 e.symm)).trans h.mp
 .by_cases n:B=q
  .subst n;rw[P]at j;cases j;rw[vU,cN C,(ya d _ T).2];exact R
  .rw[vU,cD (fun e=>n (e.symm.trans C)),im];have:=s B M j;exact(A B (pK this.1 h.size) (by omega) n).trans (h.qs B M j)
 .exact o.os.trans (u.os.trans h.os)
 .exact o.tape.trans (u.tape.trans h.tape)
 .exact o.output.trans (u.output.trans h.output)
 .exact cH y (cP F o.size)
 .exact(A b (pK x h.size) (by omega) (fun e=>by grind)).trans (h.fr b x K L)
end Go.Proofs.YtlonjggfnleolaaGreatDoor
namespace Go.Proofs.YtlonjggfnleolaaGreatDoor
open Go.RowKit Go.Shelf Go.Proofs.Tryz
open Go.ChangeMaps (setBlock)
set_option linter.unusedVariables false
set_option maxHeartbeats 2000000
set_option maxRecDepth 100000
theorem FL {a:List MapEntry}:∀{l:List (Nat×Value)},a.map (fun e=>(e.key,e.val))=l.map (fun p=>(Value.int .u16 (p.1:Int),p.2))->∀q,nV a q=l.countP (fun p=>QV p.2==q):=by
 induction a with
 |nil=>intro l h q;cases l with
  |nil=>rfl
  |cons p l=>simp at h
 |cons e a b=>
  intro l h q;cases l with
  |nil=>simp at h
  |cons p l=>
   simp only[eu,pw]at h;have c:e.val=p.2:=congrArg Prod.snd h.1;have:=b h.2 q;unfold nV at this⊢;rw[jb,jb,this,c]
theorem IK (S:Nat)(hb:Option Nat)(t:Cf)(L:List UInt8)(l:List (Nat×Value))(z:Nat->Option QD)(w:World)(R:mj w S hb t ⟨L,false,false⟩)(hm:PN w t.m l)(M:∀q d,z q=some d->w.heap[q]?=some (BD d))(N:∀p∈l,∃C q i d,p.2=gS C q i/\z q=some d)(r:∀q d,z q=some d->l.countP (fun p=>QV p.2==q)<=d.n/\d.n<=1000):Calls prog 95 #[.pointer (some ⟨S,0,none⟩)] w fun e w'=>e= .returned (.tuple #[])/\mj w' S none {t with dn:=true} ⟨[],false,false⟩/\PN w' t.m []/\(∀q d,z q=some d->w'.heap[q]?=some (BD (sr d (l.countP (fun p=>QV p.2==q)))))/\w'.os=w.os/\w'.tape=w.tape/\w'.output=w.output/\w.heap.size<=w'.heap.size/\∀b,b<w.heap.size->b≠S->b≠t.m->z b=none->w'.heap[b]?=w.heap[b]?:=by
 obtain⟨⟨v,u,K,H,_⟩,aD⟩:=R;obtain⟨h,a,s,ak,D,al⟩:=hm;obtain⟨d0,d1,d2,d3,d4,df⟩:=oY K;have dm:=AR K;have P:=cA K;have Q:=cA s;have x:S≠t.m:=fun e=>by rw[<-e,K]at s;cases s
 have am:(((((w.setCell ⟨S,0,none⟩ (.bool true)).setCell ⟨S,3,none⟩ (.slice none 0 0)).setCell ⟨S,4,none⟩ (.int .i64 0)).setCell ⟨S,5,none⟩ (.bool false)).setCell ⟨S,6,none⟩ (.bool false)).heap[S]?=some (MD {t with dn:=true} (.slice none 0 0) 0 false false):=(dh (i:=6) (dh (i:=5) (dh (i:=4) (dh (i:=3) (dh (i:=0) K _) _) _) _) _).trans rfl;have k1:eH [S] w (((((w.setCell ⟨S,0,none⟩ (.bool true)).setCell ⟨S,3,none⟩ (.slice none 0 0)).setCell ⟨S,4,none⟩ (.int .i64 0)).setCell ⟨S,5,none⟩ (.bool false)).setCell ⟨S,6,none⟩ (.bool false)):=(((((eH.refl [S] w).set (.inl (by simp)) _).set (.inl (by simp)) _).set (.inl (by simp)) _).set (.inl (by simp)) _).set (.inl (by simp)) _
 have an:(((((w.setCell ⟨S,0,none⟩ (.bool true)).setCell ⟨S,3,none⟩ (.slice none 0 0)).setCell ⟨S,4,none⟩ (.int .i64 0)).setCell ⟨S,5,none⟩ (.bool false)).setCell ⟨S,6,none⟩ (.bool false)).heap.size=w.heap.size:=by simp
 have n:=cb (cd am (cd k1 an));have T:∀q d,z q=some d->q<w.heap.size/\q≠S/\q≠t.m:=fun q d o=>by
  have y:=M q d o;refine⟨cA y,fun e=>?_,fun e=>?_⟩
  .rw[e,K]at y;cases y
  .rw[e,s]at y;cases y
 have f:=cb (cd s (cd ak (cd D (cd al (cd M (cd N (cd r T)))))));go_enter func95,ntmps95;go_upto_region 2 with fail
 generalize aE:(((((w.setCell ⟨S,0,none⟩ (.bool true)).setCell ⟨S,3,none⟩ (.slice none 0 0)).setCell ⟨S,4,none⟩ (.int .i64 0)).setCell ⟨S,5,none⟩ (.bool false)).setCell ⟨S,6,none⟩ (.bool false))=w1 at*;have A:w1.heap[t.m]?=some (.map h a):=n.out.2.1.keep f.out.1 (by simpa using fun e=>x e.symm);have ao:=run_range_map w1 t.m h a A;rw[n.out.2.2]at ao;have e2:=AR n.out.1;simp only at e2;have U:=cA n.out.1;have aC:=n.out.2.2;have V:=cb A;have ap:=cb (show qS w (w1.alloc (.mapIter (some t.m) a #[] a)) S t h a z #[] [] h.toList from by
  refine⟨by rw[<-n.out.2.2];exact du _ _,rfl,List.Perm.refl _,(cC _ _ _ U).trans n.out.1,(cC _ _ _ (cA V.out)).trans V.out,fun q d o=>?_,n.out.2.1.os,n.out.2.1.tape,n.out.2.1.output,by rw[cF];omega,fun b hb n1 n2=>?_⟩
  .have y:=f.out.2.2.2.2.1 q d o;have W:=n.out.2.1.keep y (by simpa using(f.out.2.2.2.2.2.2.2 q d o).2.1);have e:sr d (nV [] q)=d:=by unfold sr nV;simp
   rw[e];exact(cC _ _ _ (cA W)).trans W
  .exact(cC _ _ _ (by omega)).trans (n.out.2.1.block b hb (by simpa using n1)))
 go_wp2_with fail
 generalize w1.alloc (.mapIter (some t.m) a #[] a)=w2 at*;go_loopw [3] (fun _ wr=>∃(seen:Array Nat) (c m:List MapEntry),Hid (qS w wr S t h a z seen c m)) (fun _ wr=>h.size-Fa wr w.heap.size)
 case atStart=>exact⟨#[],[],h.toList,ap⟩
 case round=>
  obtain⟨seen,c,m,j⟩:=hrel;have aq:=AP j.out;go_wp2_with fail
  rcases run_next_at (P:=prog) wr 0 w.heap.size t.m a a seen h a j.out.it j.out.mp f.out.2.2.1 (PC _)with⟨h0,g⟩|⟨e,he,X,Y,g⟩
  .have Z:=j.out.over f.out.2.2.2.1 h0;subst Z;have f2:=AR j.out.sv;simp only at f2;rw[g];simp only[Result.andThen]
   rw[Oper.upon_value];go_wp2_with fail
   obtain⟨w5,v5,ar,E,B,aa⟩:=PN.clear wr t.m 0 l ⟨h,a,j.out.mp,f.out.2.1,f.out.2.2.1,f.out.2.2.2.1⟩;rw[ar];simp only[Result.andThen]
   rw[Oper.upon_value];have H5:=cb (cd E (cd B aa));go_wp2;go_end0;obtain⟨E,B,aa⟩:=H5.out;have F:=j.out;have ab:c.Perm h.toList:=by have:=F.pm;rwa [il]at this
   refine⟨rfl,⟨⟨.slice none 0 0,0,B.keep F.sv (by simpa using x),?_,.inl rfl⟩,by simp⟩,E,fun q d o=>?_,B.os.trans F.os,B.tape.trans F.tape,B.output.trans F.output,by have:=F.size;omega,fun b hb n1 n2 n3=>(B.block b (pK hb F.size) (by simpa using n2)).trans (F.fr b hb n1 n3)⟩
   .exact⟨⟨[],dv _ _ _ _,PC _,rfl,by simp⟩,rfl⟩
   .have y:=B.keep (F.qs q d o) (by simpa using(f.out.2.2.2.2.2.2.2 q d o).2.2);have hc:nV c q=l.countP (fun p=>QV p.2==q):=by
     rw[<-FL f.out.2.1 q];exact ab.countP_eq _
    rw[<-hc];exact y
  .obtain⟨ac,ad⟩:=j.out.left he;obtain⟨p,hp,I⟩:∃p∈l,e.val=p.2:=by
    have ae:(e.key,e.val)∈h.toList.map (fun e=>(e.key,e.val)):=dA.2 ⟨e,ac,rfl⟩;rw[f.out.2.1]at ae;obtain⟨p,hp,h2⟩:=dA.1 ae;exact⟨p,hp,(congrArg Prod.snd h2).symm⟩
   obtain⟨C,q,i,d,au,o⟩:=f.out.2.2.2.2.2.1 p hp;rw[au]at I;have af:QV e.val=q:=by rw[I];rfl
   have av:w.heap.size<wr.heap.size:=j.out.size;have ag:(setBlock X w.heap.size (.mapIter (some t.m) a (seen.push e.born) a)).heap[w.heap.size]?=some (.mapIter (some t.m) a (seen.push e.born) a):=by
    have:w.heap.size<X.heap.size:=by rcases Y with rfl|rfl<;>exact av
    simp[setBlock,this]
   have k4:eH [w.heap.size] wr (setBlock X w.heap.size (.mapIter (some t.m) a (seen.push e.born) a)):=by
    rcases Y with rfl|rfl
    .exact⟨rfl,rfl,rfl,by simp[setBlock],fun b hb hn=>by simp only[setBlock];rw[dK (fun e=>hn (by simp[e]))]⟩
    .exact⟨rfl,rfl,rfl,by simp[setBlock],fun b hb hn=>by simp only[setBlock];rw[dK (fun e=>hn (by simp[e]))];rfl⟩
   have aw:=k4.keep j.out.mp (by simp;omega);have ah:=run_entry_at (P:=prog) _ w.heap.size t.m a seen h a e ag aw ac f.out.2.2.2.1;rw[I]at ah g;unfold gS at ah g;have ax:=f.out.2.2.2.2.2.2.1 q d o;have r:nV h.toList q<=d.n:=by rw[FL f.out.2.1 q];exact ax.1
   have ay:=f.out.2.2.2.2.2.2.2 q d o;have az:=j.out.qs q d o;have ai:=k4.keep az (by simp;omega);have aA:nV c q+1<=d.n:=by
    have F:=j.out;have e1:nV (c++m) q=nV h.toList q:=F.pm.countP_eq _;have e2:nV (c++m) q=nV c q+nV m q:=by unfold nV;rw[qf]
    have e3:0<nV m q:=by
     exact List.countP_pos_iff.2 ⟨e,ad,by simp[af]⟩
    omega
   obtain⟨f1,f2⟩:=ya d _ aA;have HQ:=cb (fun O=>AL q d.k d.kv d.val d.wd d.ft d.Pk (d.n-(nV c q+1)) (sr d (nV c q)).fa d.re d.yv d.vv ((setBlock X w.heap.size (.mapIter (some t.m) a (seen.push e.born) a)).alloc O) ((cC _ _ _ (cA ai)).trans (by rw[ai];unfold BD;rw[f1];rfl)) (by omega));rw[g];simp only[Result.andThen]
   rw[Oper.upon_value];have k:=cb (cd ag (cd k4 (cd af (cd o (cd ay (cd r ad))))));generalize setBlock X w.heap.size (.mapIter (some t.m) a (seen.push e.born) a)=w4 at*;go_wp2_with fail
   refine(HQ.out _).mono ?_;rintro e' w6 ⟨rfl,h6,k6⟩;have H6:=cb (cd h6 k6);go_wp2;go_roundw;case rel=>
    obtain⟨aj,aB,J⟩:=j.out.more k.out.2.2.2.2.2.2 k.out.2.2.1 k.out.2.2.2.1 k.out.2.2.2.2.1 P Q x f.out.2.2.2.2.2.2.2 k.out.2.2.2.2.2.1 k.out.1 k.out.2.1 H6.out.1 H6.out.2;exact⟨_,_,_,J⟩
   case measure=>
    obtain⟨aj,aB,J⟩:=j.out.more k.out.2.2.2.2.2.2 k.out.2.2.1 k.out.2.2.2.1 k.out.2.2.2.2.1 P Q x f.out.2.2.2.2.2.2.2 k.out.2.2.2.2.2.1 k.out.1 k.out.2.1 H6.out.1 H6.out.2;have h9:=AP J;omega
end Go.Proofs.YtlonjggfnleolaaGreatDoor
namespace Go.Proofs.YtlonjggfnleolaaGreatDoor
open Go.RowKit Go.Shelf Go.Proofs.Tryz
variable {d:Int}
structure PS where
 v:Option (Nat×Nat)⊕Option (Nat×ByteArray)
abbrev PS.un:PS:=⟨.inl none⟩
abbrev PS.op (o id:Nat):PS:=⟨.inl (some (o,id))⟩
abbrev PS.an (a:Nat)(v:ByteArray):PS:=⟨.inr (some (a,v))⟩
abbrev PS.fl:PS:=⟨.inr none⟩
theorem PS.el {m:PS->Prop}(un:m .un)(op:∀o id,m (.op o id))(an:∀st v,m (.an st v))(fl:m .fl)(p:PS):m p:=match p with|⟨.inl none⟩=>un|⟨.inl (some (a,b))⟩=>op a b|⟨.inr (some (a,b))⟩=>an a b|⟨.inr none⟩=>fl
def PS.opn:PS->Bool|⟨.inl none⟩=>true|⟨.inl (some (_,_))⟩=>true|_=>false
def PS.bad:PS->Bool|⟨.inr none⟩=>true|_=>false
def PS.ref:PS->Bool|⟨.inr (some (a,_))⟩=>decide (a=2)|_=>false
def PS.yes:PS->Bool|⟨.inr (some (a,_))⟩=>decide (a=0)|_=>false
def PS.val:PS->ByteArray|⟨.inr (some (_,v))⟩=>v|_=>⟨#[]⟩
structure QS where
 c:iO
 ps:List PS
def QS.n (x:QS):Nat:=x.ps.countP PS.opn
def QS.fa (x:QS):Bool:=x.ps.any PS.bad
def QS.re (x:QS):Bool:=x.ps.any PS.ref
def QS.ak (x:QS):Int:=if x.fa=true then 5 else if x.re=true then 5 else if x.c.kind=1 then 1 else if x.c.kind=2 then 2 else if(x.ps.map PS.yes).headD false=true then 3 else 4
def QS.wd (x:QS):ByteArray:=if x.fa=true then Qk else if x.re=true then qt else⟨#[]⟩
def kS (d:Int)(x:QS):ByteArray:=if x.c.keys=[]then qW d x.c else gZ d x.c.kind x.ak x.c.keys (x.ps.map PS.yes) (x.ps.map PS.val) x.wd x.c.id
def tV (k:Int):PS->Prop
 |⟨.inr (some (a,v))⟩=>a<=2/\v.size<=40/\(v.data.toList.isEmpty=true\/(k=1/\a=0))
 |_=>True
structure oJ (d:Int)(x:QS):Prop where
 w:OL d x.c
 len:x.ps.length=x.c.keys.length
 ps:∀p∈x.ps,tV x.c.kind p
theorem oJ.right {x:QS}(h:oJ d x)(b:x.c.keys≠[]):fp x.c.kind x.c.keys x.c.val=true/\(d=2->x.c.keys.length=1):=by
 rcases h.w.ok.NG with⟨a,_,_,c⟩|⟨_,a,_⟩
 .exact⟨a,c⟩
 .exact absurd a b
theorem zj {k:Int}{p:PS}(h:tV k p):p.val.size<=40:=by
 cases p using PS.el with
 |an a v=>exact h.2.1
 |_=>exact cG _
theorem LJ {k:Int}{p:PS}(h:tV k p):iQ (p.yes,p.val)=true:=by
 have b:=zj h;unfold iQ;rw[cO,cX];refine⟨by grind,?_⟩;cases p using PS.el with
 |an c v=>
  rcases h.2.2 with a|⟨_,a⟩
  .simp[PS.val,a]
  .simp[PS.yes,a]
 |_=>rfl
theorem oJ.answer {x:QS}(h:oJ d x)(m:x.c.keys≠[]):eI x.c.kind x.c.keys x.c.val x.ak (x.ps.map PS.yes) (x.ps.map PS.val) x.wd=true:=by
 obtain⟨f,q⟩:=h.right m;have b:=(xC f).1;have k:∀i,lv i=true->eI x.c.kind x.c.keys x.c.val 5 (x.ps.map PS.yes) (x.ps.map PS.val) i=true:=fun i n=>by
  unfold eI;rw[f,rF,jf,cD (by decide),cD (by decide),cD (by decide),cN rfl,n]
 by_cases c:x.fa=true
 .have a:x.ak=5:=by unfold QS.ak;rw[cN c]
  have j:x.wd=Qk:=by unfold QS.wd;rw[cN c]
  rw[a,j];exact k _ (by decide)
 .by_cases g:x.re=true
  .have a:x.ak=5:=by unfold QS.ak;rw[cD c,cN g]
   have j:x.wd=qt:=by unfold QS.wd;rw[cD c,cN g]
   rw[a,j];exact k _ (by decide)
  .rcases b with e|e|e
   .have a:x.ak=1:=by unfold QS.ak;rw[cD c,cD g,cN e]
    rw[a];unfold eI;rw[f,rF,jf,cN rfl,e];unfold kA;rw[cO,cO,cO,cX,cX,cX,jN];refine⟨rfl,⟨by rw[dp,h.len],by rw[dp,h.len]⟩,fun p l=>?_⟩;rw[List.zip_map']at l;obtain⟨y,o,rfl⟩:=dA.1 l;exact LJ (h.ps y o)
   .have a:x.ak=2:=by unfold QS.ak;rw[cD c,cD g,e];rfl
    rw[a];unfold eI;rw[f,rF,jf,cD (by decide),cN rfl,e];rfl
   .have a:x.ak=3\/x.ak=4:=by
     unfold QS.ak;rw[cD c,cD g,e,cD (by decide),cD (by decide)];split<;>simp
    unfold eI;rw[f,rF,jf,cD (by omega),cD (by omega),cN a,e];rfl
theorem oJ.say (a:d=1\/d=2\/d=3){x:QS}(h:oJ d x)(b:x.c.keys≠[]):jY d x.c.kind x.c.keys.length x.c.id=true:=by
 have c:=h.w.cm.Su;have e:=h.w.cm.Sv;unfold jY uf;rcases a with rfl|rfl|rfl
 .simp
 .have f:=(h.right b).2 rfl;unfold gI;simp;omega
 .simp
open Go.Conc
variable {W c:World}{d g:Nat}{v:gU}{s:xJ}
structure gM (W:World)(win:Nat)(v:gU)(s:xJ):Prop where
 eC:W.heap[v.C]?=some (uT v.R v.ch v.wv v.bp v.bv)
 rd:PD W v.R v.hb v.t s.st
 di:dT s.d v.t
 chan:∃buf a b tm,W.heap[v.ch]?=some (.chan win buf false a b tm)/\buf.size=s.waits.length
 row:W.ownsRow 0 175 1 v.wv s.waits.length (v.qs.map dC)
 ql:v.qs.length=s.waits.length
 Bj:v.bp= .pointer none\/v.bp= .pointer (some ⟨v.C,3,none⟩)
 DU:ix W v.bv s.told
 ab:∀b,v.bv.ownBlock=some b->v.hb≠some b
theorem gM.kind (h:gM W d v s):∀b∈v.cM,(∃Z T f,W.heap[b]?=some (.cells Z T f)/\(T=125\/T=134\/T=5\/T=175))\/∃g e o a c m,W.heap[b]?=some (.chan g e o a c m):=by
 intro b hb;rcases cQ.1 hb with rfl|hb
 .exact .inl ⟨_,_,_,h.eC,.inl rfl⟩
 rcases cQ.1 hb with rfl|hb
 .obtain⟨e,a,c,m,p,_⟩:=h.chan;exact .inr ⟨_,_,_,_,_,_,p⟩
 rcases cQ.1 hb with rfl|hb
 .obtain⟨Z,i⟩:=h.rd.dQ;exact .inl ⟨_,_,_,i,.inr (.inl rfl)⟩
 rcases cr.1 hb with hb|hb
 .rcases cr.1 hb with hb|hb
  .have j:v.hb=some b:=by simp_all
   have n:=h.rd;rw[j]at n;obtain⟨Z,i⟩:=n.Ob;exact .inl ⟨_,_,_,i,.inr (.inr (.inl rfl))⟩
  .obtain⟨k,l⟩:=cZ h.row (ia hb);exact .inl ⟨_,_,_,l,.inr (.inr (.inr rfl))⟩
 .obtain⟨k,q,l⟩:=h.DU.eC (ia hb);exact .inl ⟨_,_,_,l,.inr (.inr (.inl rfl))⟩
theorem gM.old (h:gM W d v s):∀b∈v.cM,b<W.heap.size:=by
 intro b g;rcases h.kind b g with⟨Z,T,f,e,_⟩|⟨i,j,k,a,c,l,e⟩
 .exact cA e
 .exact cA e
theorem gM.apart (h:gM W d v s){b T:Nat}{Z:Array Value}{f:Nat×Nat}(hb:W.heap[b]?=some (.cells Z T f))(g:T≠125/\T≠134/\T≠5/\T≠175):b∉v.cM:=by
 intro i;rcases h.kind b i with⟨m,n,o,e,j⟩|⟨k,l,p,a,c,q,e⟩
 .rw[hb]at e;obtain⟨_,rfl,_⟩:=e;rcases j with h|h|h|h
  .exact g.1 h
  .exact g.2.1 h
  .exact g.2.2.1 h
  .exact g.2.2.2 h
 .rw[hb]at e;cases e
theorem gM.keep (h:gM W d v s)(k:∀b∈v.cM,c.heap[b]?=W.heap[b]?):gM c d v s:=by
 obtain⟨e,a,b,i,j,l⟩:=h.chan;exact⟨(k _ (by simp[gU.cM])).trans h.eC,h.rd.other (k _ (by simp[gU.cM])) (fun b m=>k b (by simp[gU.cM,m])),h.di,⟨e,a,b,i,(k _ (by simp[gU.cM])).trans j,l⟩,dR h.row (fun g f=>k g (by simp[gU.cM,f])),h.ql,h.Bj,h.DU.other (fun g f=>k g (by simp[gU.cM,f])),h.ab⟩
theorem gM.below (h:gM W d v s)(hb:Below W.heap.size W c):gM c d v s:=h.keep (fun b a=>hb.block b (h.old b a))
theorem gM.nC (h:gM W d v s):v.C≠v.ch/\v.C≠v.R/\v.hb≠some v.C/\v.wv.ownBlock≠some v.C/\v.bv.ownBlock≠some v.C:=by
 have c:=h.eC;obtain⟨m,a,b,n,j,_⟩:=h.chan;obtain⟨Z,k⟩:=h.rd.dQ;refine⟨fun e=>?_,fun e=>?_,fun e=>?_,fun e=>?_,fun e=>?_⟩
 .rw[<-e,c]at j;cases j
 .rw[<-e,c]at k;cases k
 .have l:=h.rd;rw[e]at l;obtain⟨o,f⟩:=l.Ob;rw[c]at f;cases f
 .obtain⟨i,g⟩:=cZ h.row e;rw[c]at g;cases g
 .obtain⟨i,p,g⟩:=h.DU.eC e;rw[c]at g;cases g
theorem gM.nB (h:gM W d v s)(i:v.bv.ownBlock=some g):g≠v.ch/\g≠v.R/\v.hb≠some g/\v.wv.ownBlock≠some g:=by
 obtain⟨m,o,f⟩:=h.DU.eC i;obtain⟨n,a,b,p,j,_⟩:=h.chan;obtain⟨Z,k⟩:=h.rd.dQ;refine⟨fun e=>?_,fun e=>?_,h.ab g i,fun e=>?_⟩
 .rw[<-e,f]at j;cases j
 .rw[<-e,f]at k;cases k
 .obtain⟨l,c⟩:=cZ h.row e;rw[f]at c;cases c
theorem gM.nW (h:gM W d v s)(n:v.wv.ownBlock=some g):g≠v.ch/\g≠v.R/\v.hb≠some g/\v.bv.ownBlock≠some g:=by
 obtain⟨o,i⟩:=cZ h.row n;obtain⟨p,a,b,q,j,_⟩:=h.chan;obtain⟨Z,k⟩:=h.rd.dQ;refine⟨fun e=>?_,fun e=>?_,fun e=>?_,fun e=>?_⟩
 .rw[<-e,i]at j;cases j
 .rw[<-e,i]at k;cases k
 .have l:=h.rd;rw[e]at l;obtain⟨r,c⟩:=l.Ob;rw[i]at c;cases c
 .obtain⟨m,t,f⟩:=h.DU.eC e;rw[i]at f;cases f
theorem gM.Ok (h:gM W d v s):v.ch≠v.R/\v.hb≠some v.ch/\v.wv.ownBlock≠some v.ch/\v.bv.ownBlock≠some v.ch:=by
 obtain⟨l,a,b,m,g,_⟩:=h.chan;obtain⟨Z,j⟩:=h.rd.dQ;refine⟨fun e=>?_,fun e=>?_,fun e=>?_,fun e=>?_⟩
 .rw[<-e,g]at j;cases j
 .have k:=h.rd;rw[e]at k;obtain⟨n,c⟩:=k.Ob;rw[g]at c;cases c
 .obtain⟨i,f⟩:=cZ h.row e;rw[g]at f;cases f
 .obtain⟨i,o,f⟩:=h.DU.eC e;rw[g]at f;cases f
theorem gM.wrote (h:gM W d v s)(i:Value)(j:List UInt8)(t:c.heap[v.C]?=some (uT v.R v.ch v.wv (.pointer (some ⟨v.C,3,none⟩)) i))(u:ix c i j)(q:eH (v.C::v.bv.ownBlock.toList) W c)(r:i.ownBlock=v.bv.ownBlock\/∃g,i.ownBlock=some g/\W.heap.size<=g):gM c d {v with bp:= .pointer (some ⟨v.C,3,none⟩),bv:=i} {s with told:=j}/\eH v.cM W c/\dB W v.cM (gU.cM {v with bp:= .pointer (some ⟨v.C,3,none⟩),bv:=i}):=by
 obtain⟨w,y,z,A,H⟩:=h.nC;have m:∀b∈v.cM,b≠v.C->v.bv.ownBlock≠some b->c.heap[b]?=W.heap[b]?:=fun b f I J=>q.block b (h.old b f) (fun B=>by grind)
 obtain⟨n,a,b,C,D,E⟩:=h.chan;have o:=h.Ok;refine⟨⟨t,h.rd.other (m _ (by simp[gU.cM]) (fun e=>y e.symm) (fun e=>(h.nB e).2.1 rfl)) (fun b f=>m b (by simp[gU.cM,f]) (fun e=>z (by rw[f,e])) (fun e=>(h.nB e).2.2.1 f)),h.di,⟨n,a,b,C,(m _ (by simp[gU.cM]) (fun e=>w e.symm) o.2.2.2).trans D,E⟩,dR h.row (fun g k=>m g (by simp[gU.cM,k]) (fun e=>A (by rw[k,e])) (fun e=>(h.nB e).2.2.2 k)),h.ql,.inr rfl,u,fun b f=>?_⟩,q.more (fun x F=>?_),fun b f=>?_⟩
 .rcases r with e|⟨g,e,k⟩
  .exact h.ab b (by grind)
  .intro l;have K:=h.old b (by simp only at l;simp[gU.cM,l]);rw[e]at f;cases f;omega
 .rcases cQ.1 F with e|e
  .rw[e];simp[gU.cM]
  .simp[gU.cM,lj e]
 .rcases r with e|⟨g,e,k⟩
  .left;unfold gU.cM at f⊢;simp only[e]at f;exact f
  .unfold gU.cM at f⊢;simp only[e]at f;by_cases p:b=g
   .exact .inr (by omega)
   .simp[p]at f⊢;rcases f with e|e|e|e|e<;>simp[e]
theorem gM.NI {m p:World}{c:iO}{cs:List iO}{q:Nat}{i:List Nat}{f:Nat}(h:gM W d v s)(L:s.waits=c::cs)(M:v.qs=q::i)(F:v.wv= .slice (some ⟨g,0,none⟩) (i.length+1) f)(H:m.ownsRow 0 175 1 (.slice (some ⟨g,0,none⟩) i.length f) i.length (i.map dC))(r:eH [g] W m)(k:Array Value)(I J:Nat)(t:Bool)(y:k.size=cs.length)(u:p=(m.setCell ⟨v.C,2,none⟩ (.slice (some ⟨g,0,none⟩) i.length f)).setChan v.ch d k false I J t):gM p d {v with wv:= .slice (some ⟨g,0,none⟩) i.length f,qs:=i} {s with waits:=cs}/\eH v.cM W p/\gU.cM {v with wv:= .slice (some ⟨g,0,none⟩) i.length f,qs:=i}=v.cM:=by
 obtain⟨n1,N,O,P,Q⟩:=h.nC;have n:v.wv.ownBlock=some g:=by rw[F];rfl
 have w:=h.nW n;obtain⟨R,S,m3,T⟩:=h.Ok;have o:gU.cM {v with wv:= .slice (some ⟨g,0,none⟩) i.length f,qs:=i}=v.cM:=by unfold gU.cM;simp only[F];rfl
 have z:∀b<W.heap.size,b≠g->b≠v.C->b≠v.ch->p.heap[b]?=W.heap[b]?:=fun b j e1 U e3=>by
  rw[u];rw[(mq _ _ _ _ _ _ _ _).block b (by rw[jU];exact cH j r.size) (by grind)];rw[cz m ⟨v.C,2,none⟩ _ b U];exact r.block b j (by grind)
 have A:v.C≠g:=fun e=>P (by rw[n,e])
 have B:=(r.block v.C (cA h.eC) (by simp_all)).trans h.eC;have C:=dh (i:=2) B (.slice (some ⟨g,0,none⟩) i.length f);obtain⟨V,a,b,tm,X,c2⟩:=h.chan;have D:v.ch<(m.setCell ⟨v.C,2,none⟩ (.slice (some ⟨g,0,none⟩) i.length f)).heap.size:=by rw[jU];exact cH (cA X) r.size
 have l:i.length=cs.length:=by have:=h.ql;rw[L,M]at this;simpa using this
 refine⟨⟨?_,h.rd.other (z _ (h.old _ (by simp[gU.cM])) (fun e=>w.2.1 e.symm) (fun e=>N e.symm) (fun e=>R e.symm)) (fun b j=>z b (h.old b (by simp[gU.cM,j])) (fun e=>w.2.2.1 (by rw[j,e])) (fun e=>O (by rw[j,e])) (fun e=>S (by rw[j,e]))),h.di,⟨k,I,J,t,by rw[u];exact heap_setChan _ _ _ _ _ _ _ _ D,y⟩,?_,l,h.Bj,h.DU.other (fun b j=>z b (h.old b (by simp[gU.cM,j])) (fun e=>w.2.2.2 (by rw[j,e])) (fun e=>Q (by rw[j,e])) (fun e=>T (by rw[j,e]))),h.ab⟩,?_,o⟩
 .rw[u];rw[(mq _ _ _ _ _ _ _ _).block v.C (by grind) (by grind)];exact C
 .have Y:p.ownsRow 0 175 1 (.slice (some ⟨g,0,none⟩) i.length f) i.length (i.map dC):=dR H (fun g' E=>by
   cases E;rw[u,(mq _ _ _ _ _ _ _ _).block g (by rw[jU];obtain⟨Z,hc⟩:=cZ H rfl;exact cA hc) (by simpa using w.1),cz m ⟨v.C,2,none⟩ _ g (fun e=>A e.symm)])
  simp only
  rw[<-l];exact Y
 .have k7:eH v.cM W (m.setCell ⟨v.C,2,none⟩ (.slice (some ⟨g,0,none⟩) i.length f)):=(r.more (M':=v.cM) (fun x K=>by simp at K;rw[K];simp[gU.cM,n])).set (.inl (by simp[gU.cM])) _;rw[u];exact k7.trans (mq _ _ _ _ _ _ _ _) (fun b j=> .inl (by simp at j;rw[j];simp[gU.cM]))
theorem gM.qP (h:gM W d v s):qP W v.C=s.waits.length:=by
 have a:=(PF h.eC).2.2.1;unfold YtlonjggfnleolaaGreatDoor.qP;rw[a];rcases h.row.2 with⟨e,b⟩|⟨g,c,f,e,_⟩
 .rw[e,b]
 .rw[e]
theorem gM.Sk (h:gM W d v s)(k:eH [v.ch] W c)(f:Array Value)(a b:Nat)(l:Bool)(hb:f.size=s.waits.length)(m:c.heap[v.ch]?=some (.chan d f false a b l)):gM c d v s:=by
 obtain⟨n,u,w,x,y⟩:=h.nC;obtain⟨o,p,q,r⟩:=h.Ok;have i:=fun b hb t=>k.block b (h.old b hb) (by simpa using t)
 exact⟨(i _ (by simp[gU.cM]) n).trans h.eC,h.rd.other (i _ (by simp[gU.cM]) (fun e=>o e.symm)) (fun b hb=>i b (by simp[gU.cM,hb]) (fun e=>p (by rw[hb,e]))),h.di,⟨f,a,b,l,m,hb⟩,dR h.row (fun g j=>i g (by simp[gU.cM,j]) (fun e=>q (by rw[j,e]))),h.ql,h.Bj,h.DU.other (fun g j=>i g (by simp[gU.cM,j]) (fun e=>r (by rw[j,e]))),h.ab⟩
theorem gM.RQ (h:gM W d v s)(o:St)(u:mP W c v.R v.hb v.t o):∃l,gM c d {v with hb:=l} {s with st:=o}/\eH v.cM W c/\dB W v.cM (gU.cM {v with hb:=l}):=by
 obtain⟨⟨l,w,hF⟩,f⟩:=u;obtain⟨I,x,y,J,K⟩:=h.nC;obtain⟨z,A,L,M⟩:=h.Ok;have k:eH v.cM W c:=⟨f.os,f.tape,f.output,f.size,fun b i r=>f.block b i (fun e=>r (by rw[e];simp[gU.cM])) (fun e=>r (by simp[gU.cM,<-e]))⟩
 have p:∀b∈v.cM,b≠v.R->v.hb≠some b->c.heap[b]?=W.heap[b]?:=fun b i B C=>f.block b (h.old b i) B (fun e=>C (by rw[e]))
 obtain⟨q,a,b,D,E,F⟩:=h.chan;refine⟨l,⟨(p _ (by simp[gU.cM]) x y).trans h.eC,w,h.di,⟨q,a,b,D,(p _ (by simp[gU.cM]) z A).trans E,F⟩,dR h.row (fun g n=>p g (by simp[gU.cM,n]) (h.nW n).2.1 (h.nW n).2.2.1),h.ql,h.Bj,h.DU.other (fun g n=>p g (by simp[gU.cM,n]) (h.nB n).2.1 (h.nB n).2.2.1),fun b i m=>?_⟩,k,fun b i=>?_⟩
 .have H:=h.old b (by simp[gU.cM,i]);rcases hF with e|e|⟨j,e,t⟩
  .exact h.ab b i (by grind)
  .rw[e]at m;cases m
  .rw[e]at m;cases m;omega
 .unfold gU.cM at i⊢;simp at i⊢;rcases i with e|e|e|e|e|e
  .simp[e]
  .simp[e]
  .simp[e]
  .rcases hF with e2|e2|⟨j,e2,t⟩
   .rw[e2]at e;simp[e]
   .rw[e2]at e;cases e
   .rw[e2]at e;cases e;exact .inr t
  .simp[e]
  .simp[e]
theorem gM.next (h:gM W d v s)(x:iC)(L:fw s.d s.st.held=some x)(q j m:Nat)(f:Array Value)(s' n:Nat)(o:Bool)(g:Option Nat)(w:c.heap[v.C]?=some (uT v.R v.ch (.slice (some ⟨j,0,none⟩) (s.waits.length+1) m) v.bp v.bv))(y:c.ownsRow 0 175 1 (.slice (some ⟨j,0,none⟩) (s.waits.length+1) m) (s.waits.length+1) (v.qs.map dC++[.pointer (some ⟨q,0,none⟩)]))(z:v.wv.ownBlock=some j\/W.heap.size<=j)(A:f.size=s.waits.length+1)(B:c.heap[v.ch]?=some (.chan d f false s' n o))(C:PD c v.R g v.t (fm s.st x))(p:lN W v.hb g)(M:Lk W.heap.size c q x.c)(r:eH (v.C::v.ch::v.R::(v.hb.toList++v.wv.ownBlock.toList)) W c):gM c d ⟨v.C,v.R,v.ch,v.t,g,.slice (some ⟨j,0,none⟩) (s.waits.length+1) m,v.bp,v.bv,v.qs++[q]⟩ ⟨s.d,fm s.st x,s.waits++[x.c],s.told⟩/\eH v.cM W c/\dB W v.cM (gU.cM ⟨v.C,v.R,v.ch,v.t,g,.slice (some ⟨j,0,none⟩) (s.waits.length+1) m,v.bp,v.bv,v.qs++[q]⟩):=by
 have l:∀b∈v.C::v.ch::v.R::(v.hb.toList++v.wv.ownBlock.toList),b∈v.cM:=fun b a=>by
  unfold gU.cM;simp at a⊢;rcases a with e|e|e|e|e<;>simp[e]
 obtain⟨N,O,P,Q,D⟩:=h.nC;refine⟨⟨w,C,h.di,⟨f,s',n,o,B,by simp[A]⟩,?_,by simp[h.ql],h.Bj,h.DU.other (fun b a=>r.block b (h.old b (by simp[gU.cM,a])) (fun t=>?_)),fun b a i=>?_⟩,r.more l,fun b a=>?_⟩
 .simp only[cI,fu,dF,eu,iI]
  exact y
 .obtain⟨E,F,H,I⟩:=h.nB a;simp at t;rcases t with e|e|e|e|e
  .exact D (by rw[a,e])
  .exact E e
  .exact F e
  .exact H e
  .exact I e
 .have J:=h.old b (by simp[gU.cM,a]);rcases p with e|e|⟨k,e,u⟩
  .exact h.ab b a (by grind)
  .rw[e]at i;cases i
  .rw[e]at i;cases i;omega
 .unfold gU.cM at a⊢;simp at a⊢;rcases a with e|e|e|e|e|e
  .simp[e]
  .simp[e]
  .simp[e]
  .rcases p with e2|e2|⟨k,e2,u⟩
   .rw[e2]at e;simp[e]
   .rw[e2]at e;cases e
   .rw[e2]at e;cases e;exact .inr u
  .have K:j=b:=by simpa [Value.ownBlock]using e
   rcases z with e2|e2
   .rw[K]at e2;simp[e2]
   .exact .inr (by omega)
  .simp[e]
variable {W a:World}{x:QS}{b d:Nat}{f:List QS}
structure QI where
 q:Nat
 yb:Nat
 vb:Nat
 kb:Option Nat
 kv:Value
def QI.cM (v:QI):List Nat:=v.q::v.yb::v.vb::v.kb.toList
def qX (a:List PS):Array Value:=(a.map (fun p=>Value.bool p.yes)).toArray
def rB (a:List PS):Array Value:=(a.map (fun p=>Value.string p.val)).toArray
def nz (v:QI)(x:QS):QD:=⟨x.c.kind,v.kv,x.c.val,x.c.word,x.c.fatal,x.c.id,x.n,x.fa,x.re,.slice (some ⟨v.yb,0,none⟩) x.ps.length x.ps.length,.slice (some ⟨v.vb,0,none⟩) x.ps.length x.ps.length⟩
structure kN (W:World)(v:QI)(x:QS):Prop where
 eC:W.heap[v.q]?=some (BD (nz v x))
 yes:W.heap[v.yb]?=some (.cells (qX x.ps) 4 (0,0))
 val:W.heap[v.vb]?=some (.cells (rB x.ps) 9 (0,0))
 keys:(x.c.keys=[]/\v.kb=none/\∃ka kc,v.kv= .slice ka 0 kc)\/∃b c Z,v.kb=some b/\b≠v.vb/\v.kv= .slice (some ⟨b,0,none⟩) x.c.keys.length c/\x.c.keys.length<=c/\W.heap[b]?=some (.cells Z 9 (0,0))/\∀(i:Nat) (k:ByteArray),x.c.keys[i]?=some k->Z[i]?=some (.string k)
theorem kN.kind {v:QI}(h:kN W v x):∀b∈v.cM,∃Z T,W.heap[b]?=some (.cells Z T (0,0))/\(T=216\/T=4\/T=9):=by
 intro b hb;rcases cQ.1 hb with rfl|hb
 .exact⟨_,_,h.eC,.inl rfl⟩
 rcases cQ.1 hb with rfl|hb
 .exact⟨_,_,h.yes,.inr (.inl rfl)⟩
 rcases cQ.1 hb with rfl|hb
 .exact⟨_,_,h.val,.inr (.inr rfl)⟩
 .have hb:=lj hb;rcases h.keys with⟨_,e,_⟩|⟨d,c,Z,e,_,_,_,a,_⟩
  .rw[e]at hb;cases hb
  .rw[e]at hb;cases hb;exact⟨_,_,a,.inr (.inr rfl)⟩
theorem kN.old {v:QI}(h:kN W v x):∀b∈v.cM,b<W.heap.size:=fun b a=>by
 obtain⟨Z,T,c,_⟩:=h.kind b a
 exact cA c
theorem kN.keep {v:QI}(h:kN W v x)(k:∀b∈v.cM,a.heap[b]?=W.heap[b]?):kN a v x:=by
 refine⟨(k _ (by simp[QI.cM])).trans h.eC,(k _ (by simp[QI.cM])).trans h.yes,(k _ (by simp[QI.cM])).trans h.val,?_⟩;rcases h.keys with e|⟨d,c,Z,e,f,g,i,j,l⟩
 .exact .inl e
 .exact .inr ⟨d,c,Z,e,f,g,i,(k d (by simp[QI.cM,e])).trans j,l⟩
theorem kN.nd {v:QI}(h:kN W v x):v.cM.Nodup:=by
 have g:=h.eC;have m:=h.yes;have n:=h.val;unfold BD sx at g;have b:v.q≠v.yb:=fun e=>by grind
 have d:v.q≠v.vb:=fun e=>by simp_all
 have f:v.yb≠v.vb:=fun e=>by grind
 unfold QI.cM;rcases h.keys with⟨_,e,_⟩|⟨a,c,Z,e,i,_,_,o,_⟩
 .rw[e];simp[b,d,f]
 .have j:v.q≠a:=fun e=>by grind
  have k:v.yb≠a:=fun e=>by grind
  have l:v.vb≠a:=fun e=>i e.symm
  rw[e];simp[b,d,f,j,k,l]
def nI (c:List QI):List Nat:=(c.map QI.cM).flatten
theorem jy {c:List QI}:b∈nI c↔∃v∈c,b∈v.cM:=by
 unfold nI;rw[kL];constructor
 .rintro ⟨l,e,a⟩;obtain⟨v,d,rfl⟩:=dA.1 e;exact⟨v,d,a⟩
 .rintro ⟨v,d,a⟩;exact⟨_,dA.2 ⟨v,d,rfl⟩,a⟩
structure mh (W:World)(qs:List QI)(xs:List QS):Prop where
 len:qs.length=xs.length
 qu:∀(i:Nat) (v:QI) (x:QS),qs[i]?=some v->xs[i]?=some x->kN W v x
 nd:(nI qs).Nodup
section
variable {c:List QI}
theorem mh.get (h:mh W c f){v:QI}(d:v∈c):∃(i:Nat) (x:QS),c[i]?=some v/\f[i]?=some x/\kN W v x:=by
 obtain⟨i,g,e⟩:=dG.1 d;have a:i<f.length:=by rw[<-h.len];exact g
 have b:c[i]?=some v:=by simp_all
 exact⟨i,f[i],b,cp a,h.qu i _ _ b (cp a)⟩
theorem mh.kind (h:mh W c f):∀b∈nI c,∃Z T,W.heap[b]?=some (.cells Z T (0,0))/\(T=216\/T=4\/T=9):=fun b d=>by
 obtain⟨v,e,a⟩:=jy.1 d
 obtain⟨i,x,_,_,g⟩:=h.get e
 exact g.kind b a
theorem mh.old (h:mh W c f):∀b∈nI c,b<W.heap.size:=fun b a=>by
 obtain⟨Z,T,d,_⟩:=h.kind b a
 exact cA d
theorem mh.keep (h:mh W c f)(k:∀b∈nI c,a.heap[b]?=W.heap[b]?):mh a c f:=
 ⟨h.len,fun i v x d e=>(h.qu i v x d e).keep (fun b g=>k b (jy.2 ⟨v,cu d,g⟩)),h.nd⟩
end
theorem En (v:QI)(c:List QI):nI (v::c)=v.cM++nI c:=rfl
theorem Aj (a b:List QI):nI (a++b)=nI a++nI b:=by unfold nI;simp
theorem Ak (v:QI):nI [v]=v.cM:=by unfold nI;simp
theorem mh.tail {v:QI}{c:List QI}(h:mh W (v::c) (x::f)):kN W v x/\mh W c f:=by
 refine⟨h.qu 0 v x rfl rfl,by have:=h.len;simpa using this,fun i u y a b=>h.qu (i+1) u y (by grind) (by simp_all),?_⟩;have:=h.nd;exact(fJ.1 this).2.1
theorem mh.snoc {v:QI}{c:List QI}(h:mh W c f)(k:kN W v x)(m:∀b∈v.cM,b∉nI c):mh W (c++[v]) (f++[x]):=by
 refine⟨by simp[h.len],fun i u y g d=>?_,?_⟩
 .by_cases l:i<c.length
  .rw[cW l]at g;rw[cW (by rw[<-h.len];exact l)]at d;exact h.qu i u y g d
  .have j:i=c.length:=by grind
   subst j;rw[dg (by rw[h.len];exact PC _),<-h.len]at d;simp at g d;subst g d;exact k
 .rw[Aj,Ak];exact fJ.2 ⟨h.nd,k.nd,fun a n b o e=>m b o (e▸n)⟩
theorem mh.ap:∀{c:List QI} {f:List QS},mh W c f->∀(i j:Nat) (v u:QI),i≠j->c[i]?=some v->c[j]?=some u->∀b∈v.cM,b∉u.cM:=by
 intro c;induction c with
 |nil=>intro f h i j v u _ d;simp at d
 |cons q c m=>
  intro f h i j v u g d e b k a;cases f with
  |nil=>have:=h.len;simp at this
  |cons x f=>
   have n:=h.tail.2;have o:=h.nd;have l:=(fJ.1 o).2.2;cases i with
   |zero=>
    cases j with
    |zero=>exact g rfl
    |succ j=>
     simp at d e;subst d;exact l b k b (jy.2 ⟨u,cu e,a⟩) rfl
   |succ i=>
    cases j with
    |zero=>
     simp at d e;subst e;exact l b a b (jy.2 ⟨v,cu d,k⟩) rfl
    |succ j=>exact m n i j v u (by omega) (by grind) (by simp_all) b k a
theorem mh.set {c:List QI}(h:mh W c f){i:Nat}{v:QI}{m:QS}(n:c[i]?=some v)(k:∀b∈nI c,b∉v.cM->a.heap[b]?=W.heap[b]?)(p:kN a v m):mh a c (f.set i m):=by
 refine⟨by simp[h.len],fun j u y d g=>?_,h.nd⟩;by_cases l:i=j
 .subst l;rw[n]at d;cases d;have q:i<f.length:=by grind
  rw[cK q]at g;cases g;exact p
 .rw[de l]at g;exact(h.qu j u y d g).keep (fun b o=>k b (jy.2 ⟨u,cu d,o⟩) (h.ap j i u v (fun e=>l e.symm) d n b o))
structure dE where
 d:Int
 st:St
 qs:List QS
 told:List UInt8
def dE.k (s:dE):xJ:=⟨s.d,s.st,s.qs.map (·.c),s.told⟩
structure fB where
 k:gU
 qi:List QI
def fB.cM (v:fB):List Nat:=v.k.cM++nI v.qi
structure gL (W:World)(win:Nat)(v:fB)(s:dE):Prop where
 uz:gM W win v.k s.k
 qk:v.k.qs=v.qi.map (·.q)
 qu:mh W v.qi s.qs
 ok:∀x∈s.qs,oJ s.d x
section
variable {v:fB}{s:dE}
theorem gL.kind (h:gL W d v s):∀b∈v.cM,(∃Z T f,W.heap[b]?=some (.cells Z T f)/\(T=125\/T=134\/T=5\/T=175\/T=216\/T=4\/T=9))\/∃e g i a c j,W.heap[b]?=some (.chan e g i a c j):=by
 intro b hb;rcases cr.1 hb with hb|hb
 .rcases h.uz.kind b hb with⟨Z,T,f,h1,k⟩|h1
  .exact .inl ⟨Z,T,f,h1,by grind⟩
  .exact .inr h1
 .obtain⟨Z,T,h1,k⟩:=h.qu.kind b hb;exact .inl ⟨Z,T,_,h1,by simp_all⟩
theorem gL.old (h:gL W d v s):∀b∈v.cM,b<W.heap.size:=by
 intro b g;rcases h.kind b g with⟨Z,T,f,e,_⟩|⟨i,j,k,a,c,l,e⟩
 .exact cA e
 .exact cA e
theorem gL.apart (h:gL W d v s){T:Nat}{Z:Array Value}{f:Nat×Nat}(hb:W.heap[b]?=some (.cells Z T f))(i:T≠125/\T≠134/\T≠5/\T≠175/\T≠216/\T≠4/\T≠9):b∉v.cM:=by
 intro j;rcases h.kind b j with⟨n,o,p,g,k⟩|⟨l,m,q,a,c,r,g⟩
 .rw[hb]at g;obtain⟨_,rfl,_⟩:=g;rcases k with e|e|e|e|e|e|e<;>simp[e]at i
 .rw[hb]at g;cases g
theorem gL.keep (h:gL W d v s)(k:∀b∈v.cM,a.heap[b]?=W.heap[b]?):gL a d v s:=
 ⟨h.uz.keep (fun b c=>k b (cr.2 (.inl c))),h.qk,h.qu.keep (fun b c=>k b (cr.2 (.inr c))),h.ok⟩
theorem gL.below (h:gL W d v s)(hb:Below W.heap.size W a):gL a d v s:=h.keep (fun b c=>hb.block b (h.old b c))
theorem gL.ap (h:gL W d v s):∀b∈nI v.qi,b∉v.k.cM:=fun b a=>by
 obtain⟨Z,T,c,e⟩:=h.qu.kind b a
 exact h.uz.apart c (by grind)
theorem gL.JI (h:gL W d v s){f:gU}{e:List UInt8}{g:St}(c:eH v.k.cM W a)(i:gM a d f ⟨s.d,g,s.qs.map (·.c),e⟩)(j:f.qs=v.k.qs)(k:dB W v.k.cM f.cM):gL a d ⟨f,v.qi⟩ ⟨s.d,g,s.qs,e⟩/\eH v.cM W a/\dB W v.cM (fB.cM ⟨f,v.qi⟩):=by
 refine⟨⟨i,j.trans h.qk,h.qu.keep (fun b hb=>c.block b (h.qu.old b hb) (h.ap b hb)),h.ok⟩,c.more (fun b hb=>cr.2 (.inl hb)),fun b hb=>?_⟩;rcases cr.1 hb with hb|hb
 .rcases k b hb with h1|h1
  .exact .inl (cr.2 (.inl h1))
  .exact .inr h1
 .exact .inl (cr.2 (.inr hb))
end
variable {W:World}{v:QI}{x:QS}{d:Int}
def Gf (d:Int):Nat:=if d=1 then 212 else if d=2 then 245 else 252
theorem kN.Jy (h:kN W v x)(c:x.ps.length<=1000):eZ W (some ⟨v.yb,0,none⟩) x.ps.length x.ps.length (x.ps.map PS.yes):=by
 refine⟨by simp,PC _,by simp;omega,.inl ⟨v.yb,0,rfl,cA h.yes,fun i s a=>?_⟩⟩;rw[cn h.yes (0+i),eB];unfold qX;rw[cL]at a;simp only[eQ,cL]
 cases b:x.ps[i]?with
 |none=>rw[b]at a;cases a
 |some p=>rw[b]at a;cases a;rfl
theorem kN.strs (h:kN W v x)(d:x.ps.length<=1000)(c:∀p∈x.ps,p.val.size<=40):dH W (some ⟨v.vb,0,none⟩) x.ps.length x.ps.length (x.ps.map PS.val):=by
 refine⟨by simp,PC _,by simp;omega,fun s a=>?_,.inl ⟨v.vb,0,rfl,cA h.val,fun i s a=>?_⟩⟩
 .obtain⟨p,b,rfl⟩:=dA.1 a;have:=c p b;unfold maxLen;omega
 .rw[cn h.val (0+i),eB];unfold rB;rw[cL]at a;simp only[eQ,cL]
  cases b:x.ps[i]?with
  |none=>rw[b]at a;cases a
  |some p=>rw[b]at a;cases a;rfl
theorem GH (d:Int)(X:d=1\/d=2\/d=3)(k:Int)(a:Option Addr)(n c:Nat)(o:List ByteArray)(b r:ByteArray)(s:Bool)(h:Int)(j:Int)(D E:Option Addr)(u w y z:Nat)(l:List Bool)(m:List ByteArray)(Q R:Value)(i:ByteArray)(id:Int)(W:World)(S:dH W a n c o)(H:eZ W D u w l)(I:dH W E y z m)(L:eI k o b j l m i=true)(Y:jY d k n id=true)(t:j=1->Q= .slice D u w/\R= .slice E y z):Calls prog (Gf d) #[.agg #[],db k (.slice a n c) b r s h,eW j Q R i,.int .i64 id] W fun e w'=>e= .returned (.string (gZ d k j o l m i id))/\Below W.heap.size W w':=by
 have g:=S.len;have A:=H.len;have B:=I.len;rcases X with rfl|rfl|rfl
 .rcases iK L with⟨rfl,rfl,F⟩|⟨v,J,K⟩
  .obtain⟨rfl,rfl⟩:=t rfl;obtain rfl:u=n:=by rw[<-A,<-g];exact F.bl
   obtain rfl:y=u:=by rw[<-B,<-g];exact F.vl
   exact vi a D E _ c w z o l m b r s h i id W S H I (by rw[<-g];exact F.l4) F.k8 F.v40
  .have e:gZ 1 k j o l m i id=oV j i:=by unfold gZ;rw[cN rfl,cD v]
   rw[e];exact rW k _ b r s h j _ _ i id W J K
 .obtain⟨T,U,V⟩:=yk Y;rcases iK L with⟨rfl,rfl,F⟩|⟨v,J,K⟩
  .obtain⟨rfl,rfl⟩:=t rfl;have C:o.length=1:=by have:=F.l1;omega
   obtain⟨f,rfl⟩:=AB (F.bl.trans C);obtain⟨x,rfl⟩:=AB (F.vl.trans C);obtain⟨rfl,M,Z,fo,rfl,N,p⟩:=wm H;obtain⟨rfl,O,vb,vo,rfl,P,q⟩:=yJ I;have hx:=F.v40 x (by simp);exact uY _ b r s h f x Z fo w vb vo z i id W T U hx M O N P p q
  .have e:gZ 2 k j o l m i id=gO 2 (AV j) 0 0 (QA k id):=by unfold gZ;rw[cD (by decide),cN rfl,cD v]
   rw[e];exact rR k _ b r s h j _ _ i id W v T U
 .rcases iK L with⟨rfl,rfl,F⟩|⟨v,J,K⟩
  .obtain⟨rfl,rfl⟩:=t rfl;obtain rfl:u=n:=by rw[<-A,<-g];exact F.bl
   obtain rfl:y=u:=by rw[<-B,<-g];exact F.vl
   have e:gZ 3 1 1 o l m i id=lL y (l.zip m):=by unfold gZ;rw[cD (by decide),cD (by decide),cN rfl,g]
   rw[e];exact vm 1 _ D E _ w z l m b r s h i id W H I (by rw[<-g];exact F.l1) (by rw[<-g];exact F.l4) F.v40
  .have e:gZ 3 k j o l m i id=oW j i:=by unfold gZ;rw[cD (by decide),cD (by decide),cD v]
   rw[e];exact rY k _ b r s h j _ _ i id W J K
theorem FG (d:Int)(g:d=1\/d=2\/d=3)(c:iO)(b:Value)(W:World)(f:Cg c)(h:c.keys=[]):Calls prog (Gf d) #[.agg #[],db c.kind b c.val c.word c.fatal c.id,eW 5 (.slice none 0 0) (.slice none 0 0) c.word,.int .i64 c.id] W fun e w'=>e= .returned (.string (qW d c))/\Below W.heap.size W w':=by
 have a:=f.fG h;rcases g with rfl|rfl|rfl
 .rw[a.1];unfold qW;exact rW 4 b c.val c.word c.fatal c.id 5 _ _ c.word c.id W (by omega) (fun _=>a.2)
 .rw[a.1];exact rR 4 b c.val c.word c.fatal c.id 5 _ _ c.word c.id W (by omega) f.Su f.Sv
 .rw[a.1];unfold qW;exact rY 4 b c.val c.word c.fatal c.id 5 _ _ c.word c.id W (by omega) (fun _=>a.2)
def Jq (v:QI)(x:QS):Value:=if x.c.keys=[]then eW 5 (.slice none 0 0) (.slice none 0 0) x.c.word else Cj x.c.kind x.fa x.re ((x.ps.map PS.yes).headD false) (.slice (some ⟨v.yb,0,none⟩) x.ps.length x.ps.length) (.slice (some ⟨v.vb,0,none⟩) x.ps.length x.ps.length)
theorem Jp (x:QS)(a b:Value):Cj x.c.kind x.fa x.re ((x.ps.map PS.yes).headD false) a b=eW x.ak (if x.ak=1 then a else .slice none 0 0) (if x.ak=1 then b else .slice none 0 0) x.wd:=by
 unfold Cj QS.ak QS.wd;cases x.fa with
 |true=>simp
 |false=>
  cases x.re with
  |true=>simp
  |false=>
   by_cases c:x.c.kind=1
   .simp[c]
   .by_cases d:x.c.kind=2
    .simp[d]
    .cases (x.ps.map PS.yes).headD false<;>simp[c,d]
theorem kN.answers (h:kN W v x)(f:oJ d x)(a:World)(hb:Below W.heap.size W a):Calls prog 129 #[.pointer (some ⟨v.q,0,none⟩)] a fun e w'=>e= .returned (Jq v x)/\Below a.heap.size a w':=by
 have g:=(hb.block v.q (cA h.eC)).trans h.eC;unfold BD at g;unfold Jq;by_cases b:x.c.keys=[]
 .rw[cN b];have j:=(f.w.cm.fG b).1;have c:=g;rw[show(nz v x).k=4 from j]at c;exact Bg v.q _ _ _ _ _ _ _ _ _ _ a c
 .rw[cD b];have n:=f.len;have l:=pH.2 b;have j:=f.w.cm.k4;obtain⟨p,k⟩:∃p,x.ps[0]?=some p:=⟨_,cp (by omega)⟩
  have m:a.cell? ⟨v.yb,0,none⟩=some (.bool ((x.ps.map PS.yes).headD false)):=by
   rw[cn ((hb.block v.yb (cA h.yes)).trans h.yes) 0];unfold qX;cases i:x.ps with
   |nil=>rw[i]at k;cases k
   |cons p o=>simp
  exact Dc v.q v.yb x.ps.length x.c.kind v.kv x.c.val x.c.word x.c.fatal x.c.id _ x.fa x.re _ _ a g ⟨_,_,_,rfl⟩ (f.w.cm.right b) (by omega) (by omega) m
theorem kN.Nz (h:kN W v x)(f:oJ d x)(j:x.c.keys≠[]):∃b c,v.kv= .slice (some ⟨b,0,none⟩) x.c.keys.length c/\dH W (some ⟨b,0,none⟩) x.c.keys.length c x.c.keys:=by
 have n:=f.w.cm.k4;rcases h.keys with⟨e,_⟩|⟨b,c,Z,e,o,k,l,g,m⟩
 .exact absurd e j
 .refine⟨b,c,k,rfl,l,by omega,fun s a=>?_,.inl ⟨b,0,rfl,cA g,fun i s a=>?_⟩⟩
  .have:=f.w.cm.k8 s a;unfold maxLen;omega
  .rw[cn g (0+i),eB];exact m i s a
theorem kN.OE (i:d=1\/d=2\/d=3)(h:kN W v x)(f:oJ d x)(g:World)(hb:Below W.heap.size W g):Calls prog (Gf d) #[.agg #[],db x.c.kind v.kv x.c.val x.c.word x.c.fatal x.c.id,Jq v x,.int .i64 x.c.id] g fun e w'=>e= .returned (.string (kS d x))/\Below g.heap.size g w':=by
 unfold Jq kS;by_cases a:x.c.keys=[]
 .rw[cN a,cN a];exact FG d i x.c v.kv g f.w.cm a
 .rw[cD a,cD a,Jp];have m:=f.w.cm.k4;have n:=f.len;obtain⟨b,c,j,k⟩:=h.Nz f a;rw[j];exact GH d i x.c.kind (some ⟨b,0,none⟩) x.c.keys.length c x.c.keys x.c.val x.c.word x.c.fatal x.c.id x.ak (some ⟨v.yb,0,none⟩) (some ⟨v.vb,0,none⟩) x.ps.length x.ps.length x.ps.length x.ps.length _ _ _ _ x.wd x.c.id g (k.later hb) ((h.Jy (by omega)).later hb) ((h.strs (by omega) (fun p l=>zj (f.ps p l))).later hb) (f.answer a) (f.say i a) (fun e=>by grind)
theorem QE (b:List (Bool×ByteArray))(h:∀p∈b,p.2.size<=40):(gn b).size<=45*b.length:=by
 have:∀(l:List (Bool×ByteArray)) (a:ByteArray),(∀p∈l,p.2.size<=40)->(l.foldl (fun s p=>s++Na p) a).size<=a.size+45*l.length:=by
  intro l;induction l with
  |nil=>simp
  |cons p l d=>
   intro a c;have e:=d (a++Na p) (fun q f=>c q (by simp[f]));have g:=DL (c p (by simp));rw[cR]at e;simp only[nt,dc]
   omega
 have i:=this b ⟨#[]⟩ h;have j:(ByteArray.mk #[]).size=0:=rfl;unfold gn;omega
theorem si (n:d=1\/d=2\/d=3)(o:oJ d x):(kS d x).size<=1000:=by
 unfold kS;by_cases i:x.c.keys=[]
 .rw[cN i];have:=DS (d:=d) o.w.cm i;exact this
 .rw[cD i];have f:=o.answer i;have q:∀a b c e:Int,(gO 2 a b c e).size=7:=fun a b c e=>by unfold gO;rfl
  have one:∀b:UInt8,(ByteArray.mk #[b]).size=1:=fun b=>rfl
  generalize x.ps.map PS.yes=j at f⊢;generalize x.ps.map PS.val=g at f⊢;generalize x.c.keys=k at f⊢;generalize x.ak=z at f⊢;generalize x.wd=A at f⊢;unfold gZ;rcases iK f with⟨rfl,e,F⟩|⟨h,s,t⟩
  .have u:=F.l4;have v:=F.vl;rcases n with rfl|rfl|rfl
   .rw[cN rfl,cN rfl,cR];have:=rV ⟨#[]⟩ (j.zip (k.zip g)) (fun p m=>by
     have h:=(gw m).2;have r:=gw (a:=p.2.1) (b:=p.2.2) h;exact⟨F.k8 _ r.1,F.v40 _ r.2⟩)
    have w:(j.zip (k.zip g)).length<=4:=by simp;omega
    have y:(ByteArray.mk #[101,110,100,10]).size=4:=rfl;have B:(ByteArray.mk #[]).size=0:=rfl;unfold iM;omega
   .rw[cD (by decide),cN rfl,cN rfl,cR,q];have:(g.headD ⟨#[]⟩).size<=40:=by
     cases g with
     |nil=>exact cG _
     |cons a l=>exact F.v40 a (by simp)
    omega
   .rw[cD (by decide),cD (by decide),cN rfl];have:=QE (j.zip g) (fun p m=>F.v40 _ (gw m).2);have w:(j.zip g).length<=4:=by simp;omega
    unfold lL;split
    .omega
    .rw[cR,cR,cR,one,one];have:=fT k.length;omega
  .have C:=t;rcases n with rfl|rfl|rfl
   .rw[cN rfl,cD h];unfold oV;split
    .decide
    .split
     .decide
     .split
      .decide
      .rw[cR,cR,one];have y:(ByteArray.mk #[102,97,105,108,32]).size=5:=rfl;omega
   .rw[cD (by decide),cN rfl,cD h,q];omega
   .rw[cD (by decide),cD (by decide),cD h];unfold oW;split
    .decide
    .split
     .decide
     .split
      .decide
      .rw[cR,cR,one,one];omega
def iE (d:Int):List QS->List UInt8->List QS×List UInt8
 | [],a=>([],a)
 |x::b,a=>if x.n=0 then iE d b (a++(kS d x).data.toList)else(x::b,a)
theorem FM {a:Type}{l:List a}{n:Nat}{x:a}{b:List a}(h:x::b=l.drop n):b=l.drop (n+1):=by
 have:=congrArg List.tail h;simpa using this
section
variable (d:Nat)(v:fB)(s:dE)(w:World)
theorem xW (h:gL w d v s)(tt f:Nat)(dd:Int)(ht:v.k.t=tt)(hd:s.d=dd)(aE:dd=1\/dd=2\/dd=3)(hm:∀w:World,(method 432 tt (.agg #[]) "Tell").run prog w= .ok (f,.agg #[]) w)(hn:∀w:World,(nilAhead 432 tt (.agg #[]) "Tell").run prog w= .ok (some false) w)(be:∀(xs:Array Value) (w:World),(callFunc f xs).run prog w= .ok (.enter f xs) w)(hf:Gf dd=f)(hl:s.told.length+1000*s.qs.length<=100000000000)(aF:s.qs.length<=1000):Calls prog 89 #[.pointer (some ⟨v.k.C,0,none⟩)] w fun e w'=>e= .returned (.tuple #[])/\∃v',gL w' d v' {s with qs:=(iE s.d s.qs s.told).1,told:=(iE s.d s.qs s.told).2}/\v'.k.C=v.k.C/\v'.k.R=v.k.R/\eH v.cM w w'/\dB w v.cM v'.cM/\∃n,v'.qi=v.qi.drop n/\(iE s.d s.qs s.told).1=s.qs.drop n:=by
 have aZ:=cA h.uz.eC;obtain⟨⟨C,R,S,t,hb,wv,bp,bv,qs⟩,qi⟩:=v;obtain⟨L,st,xs,I⟩:=s;simp only at ht hd hl aF aZ⊢;subst ht hd;have aG:=h.qk;simp only at aG;subst aG;have H0:=cb h;obtain⟨F,hF⟩:∃F,fB.cM ⟨⟨C,R,S,t,hb,wv,bp,bv,qi.map (·.q)⟩,qi⟩=F:=⟨_,rfl⟩
 have HF:=cb hF;simp only[hF]
 clear hF;clear h;go_enter func89,ntmps89;go_wp2_with fail
 go_loopw [2] (fun _ wr=>∃(U Y A:Value) (B:List QI) (u:List QS) (i:List UInt8),i.length+1000*u.length<=100000000000/\u.length<=1000/\Hid (gM wr d ⟨C,R,S,t,hb,U,Y,A,B.map (·.q)⟩ ⟨L,st,u.map (·.c),i⟩/\mh wr B u/\(∀x∈u,oJ L x)/\(iE L u i=iE L xs I/\∃n,B=qi.drop n/\u=xs.drop n)/\eH F w wr/\dB w F (fB.cM ⟨⟨C,R,S,t,hb,U,Y,A,B.map (·.q)⟩,B⟩))) (fun _ wr=>qP wr C)
 case atStart=>exact⟨wv,bp,bv,qi,xs,I,hl,aF,H0.out.uz,H0.out.qu,H0.out.ok,⟨rfl,0,rfl,rfl⟩,eH.refl _ _,by rw[HF.out];exact dB.refl _ _⟩
 case round=>
  obtain⟨U,Y,A,B,u,i,au,al,D⟩:=hrel;obtain⟨c0,c1,c2,c3,c4,cf⟩:=PF D.out.1.eC;simp only at c0 c1 c2 c3 c4;have O:=cA D.out.1.eC;simp only at O;have am:Hid (iE L u i=(u,i)->∃v':fB,gL wr d v' ⟨L,st,(iE L xs I).1,(iE L xs I).2⟩/\v'.k.C=C/\v'.k.R=R/\eH F w wr/\dB w F v'.cM/\∃n,v'.qi=qi.drop n/\(iE L xs I).1=xs.drop n):=fun e=>by
   obtain⟨b1,b2,b3,⟨b4,n,b5,b6⟩,b7,b8⟩:=D.out;refine⟨⟨⟨C,R,S,t,hb,U,Y,A,B.map (·.q)⟩,B⟩,?_,rfl,rfl,b7,b8,n,b5,?_⟩
   .rw[<-b4,e];exact⟨b1,rfl,b2,b3⟩
   .rw[<-b4,e];exact b6
  cases u with
  |nil=>
   have a0:∃a c,U= .slice a 0 c:=by
    rcases D.out.1.row.2 with⟨e,_⟩|⟨g,o,V,e,_⟩
    .exact⟨_,_,e⟩
    .exact⟨_,_,e⟩
   obtain⟨wa,wc,rfl⟩:=a0;go_wp2;go_end0;exact⟨rfl,am.out rfl⟩
  |cons c E=>
   obtain⟨v0,p,rfl⟩:∃q p,B=q::p:=by
    cases B with
    |nil=>have:=D.out.2.1.len;simp at this
    |cons q a1=>exact⟨q,a1,rfl⟩
   obtain⟨g,o,rfl,bf⟩:∃g o,U= .slice (some ⟨g,0,none⟩) (E.length+1) o/\E.length+1<=o:=by
    rcases D.out.1.row.2 with⟨_,h0⟩|⟨g,o,V,e,_,_,h2,_⟩
    .simp at h0
    .simp at e h2;exact⟨g,o,e,h2⟩
   have aa:p.length=E.length:=by have:=D.out.2.1.len;simpa using this
   obtain⟨q,ab⟩:∃q,v0.q=q:=⟨_,rfl⟩
   have a2:=cb ab;have aH:wr.cell? ⟨g,0,none⟩=some (.pointer (some ⟨q,0,none⟩)):=by
    rcases D.out.1.row.2 with⟨e,_⟩|⟨g',bd,V,e,_,h1,_,_,_,h5⟩
    .cases e
    .simp at e;obtain⟨rfl,_⟩:=e;rw[cn h1 0];have h6:(V.toList.take (((c::E).map (·.c)).length*1))[0]?=(((v0::p).map (·.q)).map dC)[0]?:=by rw[h5]
     rw[dx (by simp)]at h6;simpa [dC,ab]using h6
   have a3:g<wr.heap.size:=ey wr ⟨g,0,none⟩ aH;have hQ:=D.out.2.1.tail.1;have J:=hQ.eC;rw[ab]at J;unfold BD at J;have ai:=cb (fun W (hW:Below wr.heap.size wr W)=>Bh q _ _ _ _ _ _ _ _ _ _ _ W ((hW.block q (cA J)).trans J));have y:=cA J;have K:=D.out.2.2.1 c (by simp);by_cases hk:c.n=0
   .have ac:decide (((nz v0 c).n:Int)=0)=true:=decide_eq_true (by show(c.n:Int)=0;omega);rw[ac]at ai;have ad:iE L (c::E) i=iE L E (i++(kS L c).data.toList):=by conv=>lhs;unfold iE;rw[cN hk]
    have aw:=cb (cd ad hk);have ax:=cb (fun W (hW:Below wr.heap.size wr W)=>hQ.answers K W hW);have aj:=cb (fun W (hW:Below wr.heap.size wr W)=>hQ.OE (d:=L) aE K W hW);rw[ab]at ax;rw[hf]at aj;unfold db at aj;generalize Jq v0 c=av at ax aj;generalize aI:v0.kv=kv at*;have m:=J;unfold sx at m;have q0:=cn m 0;have q1:=cn m 1;have q2:=cn m 2;have q3:=cn m 3;have q4:=cn m 4;have q5:=cn m 5;simp at q0 q1 q2 q3 q4 q5;rw[show(nz v0 c).kv=kv from aI]at q1;change wr.cell? ⟨q,0,none⟩=some (.int .i64 c.c.kind)at q0;change wr.cell? ⟨q,2,none⟩=some (.string c.c.val)at q2;change wr.cell? ⟨q,3,none⟩=some (.string c.c.word)at q3
    change wr.cell? ⟨q,4,none⟩=some (.bool c.c.fatal)at q4;change wr.cell? ⟨q,5,none⟩=some (.int .i64 c.c.id)at q5;obtain⟨⟨rv,ru,hD,_⟩,_⟩:=D.out.1.rd;simp only at hD;unfold BE at hD;have r0:=cn hD 0;simp at r0;have aJ:=cA hD;have an:=si (d:=L) aE K;generalize aK:kS L c=M at*;have a4:Hid (∀W,Below wr.heap.size wr W->Calls prog 128 #[.pointer (some ⟨C,3,none⟩),.string M] W fun e w'=>(∃v,e= .returned v)/\∃v',w'.heap[C]?=some (uT R S (.slice (some ⟨g,0,none⟩) (E.length+1) o) (.pointer (some ⟨C,3,none⟩)) v')/\ix w' v' (i++M.data.toList)/\eH (C::A.ownBlock.toList) W w'/\(v'.ownBlock=A.ownBlock\/∃g,v'.ownBlock=some g/\W.heap.size<=g)):=fun W hW=>by
     have N:=D.out.1.DU;refine(Ac C 3 125 5 _ A i M W ((hW.block C O).trans D.out.1.eC) rfl (by omega) RW (by decide) ?_ rfl (N.other (fun g hg=>by obtain⟨V,fz,hc⟩:=N.eC hg;exact hW.block g (cA hc))) (by simp at au;omega)).mono ?_
     .rcases D.out.1.Bj with h|h
      .exact .inl (by simp only at h;rw[h];rfl)
      .exact .inr (by simp only at h;rw[h];rfl)
     .rintro e w' ⟨he,v',h1,h2,h3,h4⟩;exact⟨he,v',h1,h2,h3,h4⟩
    have a5:R∉C::A.ownBlock.toList:=by
     intro ay;rcases cQ.1 ay with h|h
     .have H:=D.out.1.eC;simp only at H;rw[<-h,hD]at H;unfold uT at H;cases H
     .obtain⟨V,fz,hc⟩:=D.out.1.DU.eC (ia h);rw[hD]at hc;cases hc
    have X:q∉C::A.ownBlock.toList:=by
     intro ay;rcases cQ.1 ay with h|h
     .have H:=D.out.1.eC;simp only at H;rw[<-h,m]at H;unfold uT at H;cases H
     .obtain⟨V,fz,hc⟩:=D.out.1.DU.eC (ia h);rw[m]at hc;cases hc
    clear ac ad J m hQ K hD aK hk aI ab;go_wp2_with fail
    go_at_call 127;refine(ai.out _ (ct _ _)).mono ?_;rintro e w1 ⟨rfl,az⟩;subst az;go_wp2_with fail
    go_region_held3 (fun W'=>W'.cell? ⟨C,0,none⟩=some (.pointer (some ⟨R,0,none⟩))/\W'.cell? ⟨R,0,none⟩=some (.iface t (.agg #[]))/\W'.cell? ⟨q,0,none⟩=some (.int .i64 c.c.kind)/\W'.cell? ⟨q,1,none⟩=some kv/\W'.cell? ⟨q,2,none⟩=some (.string c.c.val)/\W'.cell? ⟨q,3,none⟩=some (.string c.c.word)/\W'.cell? ⟨q,4,none⟩=some (.bool c.c.fatal)/\W'.cell? ⟨q,5,none⟩=some (.int .i64 c.c.id)) (go_keep) (first
     |(go_at_call 129;refine(ax.out _ ?hx).mono ?_;(case hx=>repeat(first|with_reducible exact ct _ _|with_reducible refine dV ?_));rintro e w3 ⟨rfl,aL⟩;have k:=cb (mH aL);have x0:=(k.out.cell (p:=⟨C,0,none⟩) O).trans c0;have x1:=(k.out.cell (p:=⟨R,0,none⟩) aJ).trans r0;have x2:=(k.out.cell (p:=⟨q,0,none⟩) y).trans q0;have x3:=(k.out.cell (p:=⟨q,1,none⟩) y).trans q1;have x4:=(k.out.cell (p:=⟨q,2,none⟩) y).trans q2;have x5:=(k.out.cell (p:=⟨q,3,none⟩) y).trans q3;have x6:=(k.out.cell (p:=⟨q,4,none⟩) y).trans q4;have x7:=(k.out.cell (p:=⟨q,5,none⟩) y).trans q5;have aA:C<w3.heap.size:=cH O k.out.size;have ao:R<w3.heap.size:=cH aJ k.out.size;have j:q<w3.heap.size:=cH y k.out.size;clear aL c0 r0 q0 q1 q2 q3 q4 q5)
     |(with_reducible (show Calls prog f _ _ _);refine(aj.out _ ?hx).mono ?_;(case hx=>exact k.out);rintro e w4 ⟨rfl,aM⟩;have l:=cb aM;have y0:=(l.out.cell (p:=⟨C,0,none⟩) aA).trans x0;have y1:=(l.out.cell (p:=⟨R,0,none⟩) ao).trans x1;have y2:=(l.out.cell (p:=⟨q,0,none⟩) j).trans x2;have y3:=(l.out.cell (p:=⟨q,1,none⟩) j).trans x3;have y4:=(l.out.cell (p:=⟨q,2,none⟩) j).trans x4;have y5:=(l.out.cell (p:=⟨q,3,none⟩) j).trans x5;have y6:=(l.out.cell (p:=⟨q,4,none⟩) j).trans x6;have y7:=(l.out.cell (p:=⟨q,5,none⟩) j).trans x7;clear aM x0 x1 x2 x3 x4 x5 x6 x7)
     |(go_at_call 128;refine(a4.out _ ?hx).mono ?_;(case hx=>exact k.out.trans (l.out.mono k.out.size));rintro e w5 ⟨⟨ev,rfl⟩,v5,h1,h2,h3,h4⟩;have z0:=(PF h1).1;have z1:=(cS (a:=⟨R,0,none⟩) (h3.block R (cH ao l.out.size) a5)).trans y1;have z2:=(cS (a:=⟨q,0,none⟩) (h3.block q (cH j l.out.size) X)).trans y2;have z3:=(cS (a:=⟨q,1,none⟩) (h3.block q (cH j l.out.size) X)).trans y3;have z4:=(cS (a:=⟨q,2,none⟩) (h3.block q (cH j l.out.size) X)).trans y4;have z5:=(cS (a:=⟨q,3,none⟩) (h3.block q (cH j l.out.size) X)).trans y5;have z6:=(cS (a:=⟨q,4,none⟩) (h3.block q (cH j l.out.size) X)).trans y6;have z7:=(cS (a:=⟨q,5,none⟩) (h3.block q (cH j l.out.size) X)).trans y7;have H5:=cb (cd h1 (cd h2 (cd h3 h4)));clear h1 h2 h3 h4 y0 y1 y2 y3 y4 y5 y6 y7)
     |fail)
    rename_i aB;clear aB;have aN:=D.out.1.below (k.out.trans (l.out.mono k.out.size));have aC:=aN.wrote v5 (i++M.data.toList) H5.out.1 H5.out.2.1 H5.out.2.2.1 H5.out.2.2.2;have r:=cb (cd aC (eH.dP (M:=[]) (k.out.trans (l.out.mono k.out.size))));have z:=aC.1.row;simp only[eu,dc,dp]at z;rw[<-aa,a2.out]at z;have ae:(p.map (·.q)).length=p.length:=dp _;rw[<-ae]at z;have aO:=cb (JK g o q (p.map (·.q)) w5 z);rw[ae,aa]at aO;have f2:=(PF H5.out.1).2.2.1;clear z aN aC z0 z1 z2 z3 z4 z5 z6 z7 c1 c2 c3 c4 cf aH a3;go_wp2_with fail
    go_at_call 130;refine aO.out.mono ?_;rintro e w6 ⟨rfl,h6,k6⟩;have ak:=k6.keep H5.out.1 (by simp;intro e;exact r.out.1.1.nC.2.2.2.1 (by simp only[e];rfl));have d2:=(PF ak).2.2.1;have df:=(PF ak).2.2.2.2.2 2;have H6:=cb (cd ak (cd h6 k6));clear ak h6 k6;go_upto_region 4 with fail
    obtain⟨af,sa,ra,tm,ag,aP⟩:=r.out.1.1.chan;simp only[eu,dc,dp]at ag aP;have ah:=(r.out.1.1.nW (g:=g) rfl).1;have aD:=r.out.1.1.nC.1;simp only at ah aD;have ap:=H6.out.2.2.keep ag (by simp;exact fun e=>ah e.symm);have aq:(w6.setCell ⟨C,2,none⟩ (.slice (some ⟨g,0,none⟩) E.length o)).heap[S]?=some (.chan d af false sa ra tm):=(cz w6 ⟨C,2,none⟩ _ S (fun e=>aD e.symm)).trans ap;have aQ:=dh (i:=2) H6.out.1 (.slice (some ⟨g,0,none⟩) E.length o);have e1:=(PF (R:=R) (a:=S) (b:= .slice (some ⟨g,0,none⟩) E.length o) (c:= .pointer (some ⟨C,3,none⟩)) (d:=v5) aQ).2.1;have a6:=cb aq;clear aq aQ ag ap ah aD
    generalize a7:w6.setCell ⟨C,2,none⟩ (.slice (some ⟨g,0,none⟩) E.length o)=w7 at*;refine rD ?_;show qh _ _ [0,1,2,3,4] _ _ _;refine nP (v:= .pointer (some ⟨C,0,none⟩)) (w':=w7) rfl rfl (by simp[go_sem,execOp,Act.eval]) ?_;refine nP (v:= .pointer (some ⟨C,0,none⟩)) (w':=w7) rfl rfl (by simp[go_sem,execOp,Act.eval,Act.put]) ?_;refine nP (v:= .pointer (some ⟨C,1,none⟩)) (w':=w7) rfl rfl (by simp[go_sem,execOp,Act.eval,Act.put]) ?_;refine nP (v:= .chan (some S)) (w':=w7) rfl rfl (by simp[go_sem,execOp,Act.eval,Act.put,e1]) ?_;refine Dr (c:=S) (z:= .agg #[]) rfl rfl (by simp[go_sem,execOp,rcase,Act.eval,Act.put]) a6.out (by omega) ?_;refine Rj ?_
    simp only[Act.put]
    have P:=r.out.1.1.NI (c:=c.c) (cs:=E.map (·.c)) (q:=v0.q) (i:=p.map (·.q)) (g:=g) (f:=o) rfl rfl (by rw[ae,aa]) (by rw[ae,aa];exact H6.out.2.1) H6.out.2.2 (af.extract 1 af.size) sa (ra+1) tm (by simp;omega) rfl;simp only[ae,aa,a7]at P;have aR:=P.1.qP;simp only[dp]at aR;have ar:=D.out.1.qP;simp only[eu,dc,dp]at ar;have HP:=cb P;clear P;generalize w7.setChan S d (af.extract 1 af.size) false sa (ra+1) tm=w8 at*;have HM:=cb (show qP w8 C<qP w1 C by omega);clear aR ar;obtain⟨b1,b2,b3,⟨b4,n,b5,b6⟩,b7,b8⟩:=D.out;have Q:=r.out.2.size;have aS:w.heap.size<=w1.heap.size:=b7.size
    have aT:mh w8 p E:=by
     refine b2.tail.2.keep (fun b hb=>?_);obtain⟨Z,T,hZ,hT⟩:=b2.tail.2.kind b hb;have aU:=b1.apart hZ (by rcases hT with e|e|e<;>(subst e;decide));have N:=cA hZ;have a8:=r.out.1.2.1.block b (cH N Q) aU;have a9:=r.out.2.block b N (by simp);have ba:=HP.out.2.1.block b (cH N (cP Q r.out.1.2.1.size)) (fun hm=>by
      rcases r.out.1.2.2 b hm with h9|h9
      .exact aU h9
      .have:=cH N Q;omega)
     exact ba.trans (a8.trans a9)
    have aV:dB w F (gU.cM ⟨C,R,S,t,hb,.slice (some ⟨g,0,none⟩) (E.length+1) o,Y,A,(v0::p).map (·.q)⟩):=fun b hb=>b8 b (cr.2 (.inl hb))
    have aW:=aV.trans r.out.1.2.2 (cP aS Q);have aX:=((b7.trans r.out.2 (fun b hm=>by cases hm)).trans r.out.1.2.1 aV).trans HP.out.2.1 aW;have bb:dB w F (fB.cM ⟨⟨C,R,S,t,hb,.slice (some ⟨g,0,none⟩) E.length o,.pointer (some ⟨C,3,none⟩),v5,p.map (·.q)⟩,p⟩):=fun b hb=>by
     rcases cr.1 hb with hb|hb
     .rw[HP.out.2.2]at hb;exact aW b hb
     .exact b8 b (cr.2 (.inr (by rw[En];exact cr.2 (.inr hb))))
    have bc:(i++M.data.toList).length+1000*E.length<=100000000000:=by
     rw[cI];have h9:M.data.toList.length<=1000:=by rw[Array.length_toList];exact an
     have bg:i.length+1000*(E.length+1)<=100000000000:=au;clear au al aP an;omega
    have aY:E.length<=1000:=by simp only[dc]at al;omega
    refine⟨?_,HM.out⟩;(repeat apply Exists.intro)
    refine⟨?_,rfl⟩;exact⟨_,_,_,p,E,i++M.data.toList,bc,aY,HP.out.1,aT,fun x hx=>b3 x (cJ _ hx),⟨aw.out.1.symm.trans b4,n+1,FM b5,FM b6⟩,aX,bb⟩
   .have ac:decide (((nz v0 c).n:Int)=0)=false:=decide_eq_false (by show¬(c.n:Int)=0;omega);rw[ac]at ai;have ad:iE L (c::E) i=(c::E,i):=by unfold iE;rw[cD hk]
    have aw:=cb ad;clear ac hk ad J hQ K;go_wp2_with fail
    go_at_call 127;refine(ai.out _ (ct _ _)).mono ?_;rintro e w1 ⟨rfl,az⟩;subst az;go_wp2;go_end0;exact⟨rfl,am.out aw.out⟩
theorem JC (h:gL w d v s)(b:v.k.t=160)(c:s.d=1)(f:s.told.length+1000*s.qs.length<=100000000000)(a:s.qs.length<=1000):
 Calls prog 89 #[.pointer (some ⟨v.k.C,0,none⟩)] w fun e w'=>e= .returned (.tuple #[])/\∃v',gL w' d v' {s with qs:=(iE s.d s.qs s.told).1,told:=(iE s.d s.qs s.told).2}/\v'.k.C=v.k.C/\v'.k.R=v.k.R/\eH v.cM w w'/\dB w v.cM v'.cM/\∃n,v'.qi=v.qi.drop n/\(iE s.d s.qs s.told).1=s.qs.drop n:=xW d v s w h 160 212 1 b c (by omega) FX (fun w=>by kernel_rfl) (fun g w=>by simp) rfl f a
theorem JD (h:gL w d v s)(b:v.k.t=161)(c:s.d=2)(f:s.told.length+1000*s.qs.length<=100000000000)(a:s.qs.length<=1000):
 Calls prog 89 #[.pointer (some ⟨v.k.C,0,none⟩)] w fun e w'=>e= .returned (.tuple #[])/\∃v',gL w' d v' {s with qs:=(iE s.d s.qs s.told).1,told:=(iE s.d s.qs s.told).2}/\v'.k.C=v.k.C/\v'.k.R=v.k.R/\eH v.cM w w'/\dB w v.cM v'.cM/\∃n,v'.qi=v.qi.drop n/\(iE s.d s.qs s.told).1=s.qs.drop n:=xW d v s w h 161 245 2 b c (by omega) FY (fun w=>by kernel_rfl) (fun g w=>by simp) rfl f a
theorem JE (h:gL w d v s)(b:v.k.t=162)(c:s.d=3)(f:s.told.length+1000*s.qs.length<=100000000000)(a:s.qs.length<=1000):
 Calls prog 89 #[.pointer (some ⟨v.k.C,0,none⟩)] w fun e w'=>e= .returned (.tuple #[])/\∃v',gL w' d v' {s with qs:=(iE s.d s.qs s.told).1,told:=(iE s.d s.qs s.told).2}/\v'.k.C=v.k.C/\v'.k.R=v.k.R/\eH v.cM w w'/\dB w v.cM v'.cM/\∃n,v'.qi=v.qi.drop n/\(iE s.d s.qs s.told).1=s.qs.drop n:=xW d v s w h 162 252 3 b c (by omega) FZ (fun w=>by kernel_rfl) (fun g w=>by simp) rfl f a
end
end Go.Proofs.YtlonjggfnleolaaGreatDoor
