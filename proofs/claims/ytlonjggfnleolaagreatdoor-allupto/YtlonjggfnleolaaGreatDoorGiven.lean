import Derived.Test.YtlonjggfnleolaaGreatDoorBnE
import Derived.Test.YtlonjggfnleolaaGreatDoorGivenA
import Derived.Laws.CopyOwn
set_option linter.unusedVariables false
set_option maxHeartbeats 8000000
set_option maxRecDepth 20000
namespace Go.Proofs.YtlonjggfnleolaaGreatDoor
open Go.RowKit Go.Proofs.Tryz
theorem MQ (w:World):(binOp .eql 34 (.slice none 0 0) (.slice none 0 0)).run prog w= .ok (.bool true) w:=by kernel_rfl
theorem MS (b o n c:Nat)(w:World):(binOp .eql 34 (.slice (some ⟨b,o,none⟩) n c) (.slice none 0 0)).run prog w= .ok (.bool false) w:=by kernel_rfl
theorem MR (w:World):(binOp .eql 89 (.slice none 0 0) (.slice none 0 0)).run prog w= .ok (.bool true) w:=by kernel_rfl
theorem MT (b o n c:Nat)(w:World):(binOp .eql 89 (.slice (some ⟨b,o,none⟩) n c) (.slice none 0 0)).run prog w= .ok (.bool false) w:=by kernel_rfl
structure xL (w:World)(g n:Nat)(ss:List ByteArray):Prop where
 eC:∃Z:Array Value,w.heap[g]?=some (.cells Z 9 (0,0))/\Z.size=n+2/\(∀(i:Nat) (x:ByteArray),ss[i]?=some x->Z[i]?=some (.string x))/\Z[n]?=some (.string ⟨#[109,105,110,101]⟩)/\Z[n+1]?=some (.string ⟨#[121,111,117,114,115]⟩)
theorem vy {k:World}{base g n:Nat}{e:TypeId}{f:List Value}(h:k.ownsRow base e 1 (.slice (some ⟨g,0,none⟩) n n) n f):k.heap[g]?=some (.cells f.toArray e (0,0))/\f.length=n:=by
 obtain⟨l,⟨i,_⟩|⟨u,m,j,o,v,d,p,q,r,s⟩⟩:=h
 .cases i
 .injection o with a b c;injection a with a;injection a with a;subst a;have t:j.toList=f:=by grind
  refine⟨by rw[d,<-t],by simp_all⟩
theorem zz (w:World):Calls prog 100 #[.slice none 0 0] w fun e w'=>e= .returned (.slice none 0 0)/\w'=w:=by
 have a:=MQ;go_wp2;go_ret;exact⟨rfl,rfl⟩
theorem yz (b o n c:Nat)(q:List ByteArray)(w:World)(U:q.length=n)(hc:n<=c)(hn:n<=8796093022208)(hb:b<w.heap.size)(f:∀(i:Nat) (s:ByteArray),q[i]?=some s->w.cell? ⟨b,o+i,none⟩=some (.string s)):Calls prog 100 #[.slice (some ⟨b,o,none⟩) n c] w fun e w'=>e= .returned (.slice (some ⟨w.heap.size,0,none⟩) n (n+2))/\xL w' w.heap.size n q/\Below w.heap.size w w':=by
 obtain⟨V,O,E,F,W⟩:∃i,prog.info? 9=some i/\i.zero=some (.string ⟨#[]⟩)/\i.size=1/\i.bytes=16:=info_parts (by kernel_rfl);have X:=cb f;have Y:=cb U;have h1:=MS b o n c;go_enter func100,ntmps100;go_wp2_with (refine oR _ rfl _ _ 34 rfl w.heap.size 9 V (.string ⟨#[]⟩) 1 eO O E F _ _ _ _ (n+2) rfl rfl (by omega) (by omega) (by grind) (by unfold maxLen;omega) (PC _) ?_)
 intro H d g;have k:Hid (Below w.heap.size w H):=(ct _ _).grown g (PC _) (fun _ h=>by cases h);obtain⟨L,Z,r,I⟩:∃L:List Value,Hid (L=(madeCells #[Value.string ⟨#[]⟩] (n+2)).toList)/\H.heap[w.heap.size]?=some (.cells L.toArray 9 (0,0))/\L.length=n+2:=⟨_,(show _=_ from rfl),vy d⟩
 obtain⟨l,t⟩:∃l:List Value,l=q.map Value.string:=⟨_,rfl⟩
 have m:=cb t;have u:=cb r;have aa:l.length=n:=by simp_all
 clear t d;have y:Hid (∀(j:Nat) v,l[j]?=some v->H.cell? ((⟨b,o,none⟩:Addr).add j)=some v):=by
  intro j v p;rw[m.out,cL]at p;cases J:q[j]?with
  |none=>rw[J]at p;cases p
  |some x=>
   rw[J]at p;simp at p;subst p;have:=(k.out.cell (p:=⟨b,o+j,none⟩) hb).trans (X.out j x J);unfold Addr.add;split
   .subst_vars;simpa using this
   .exact this
 have K:Hid ((prog.info? 9).map (·.size)=some 1):=(show _=_ by kernel_rfl)
 have z:Hid (∀v∈l,v.oneCell'=true):=by
  intro v P;rw[m.out]at P;obtain⟨x,_,rfl⟩:=dA.1 P;rfl
 go_wp2_with (refine wpList_copy_splice rfl _ _ 34 34 rfl 9 eO K.out _ _ _ _ _ _ rfl rfl w.heap.size 0 L 9 u.out l (by grind) (fun _=>⟨rfl,_,rfl,y.out⟩) (by omega) z.out w.heap.size w k.out (PC _) ?_)
 intro Q a A;have M:=cb A;have R:=cA a.out;have ab:=dN a.out;obtain⟨S,D⟩:∃S:Array Value,S=(splice L 0 l).toArray:=⟨_,rfl⟩
 have N:S.size=n+2:=by rw[D];simp only[ki];rw[length_splice _ _ _ (by omega)];exact I
 have HS:=cb D;rw[<-D]at a;obtain⟨v0,B⟩:∃v,S[n]?=some v:=⟨S[n]'(by omega),dZ _⟩
 obtain⟨v1,C⟩:∃v,S[n+1]?=some v:=⟨S[n+1]'(by omega),dZ _⟩
 have c0:Q.cell? ⟨w.heap.size,n,none⟩=some v0:=(cn a.out n).trans B;have c1:Q.cell? ⟨w.heap.size,n+1,none⟩=some v1:=(cn a.out (n+1)).trans C;clear B C D;clear A k u;go_wp2;go_ret;refine⟨rfl,⟨⟨_,dh (dh a.out (i:=n) _) (i:=n+1) _,by simpa using N,?_,?_,?_⟩⟩,(M.out.setCell (p:=⟨w.heap.size,n,none⟩) (PC _) _).setCell (p:=⟨w.heap.size,n+1,none⟩) (PC _) _⟩
 .intro i x T;have O:i<n:=by rw[<-Y.out];exact(cq.1 T).1
  rw[dK (by omega),dK (by omega),HS.out,eQ];unfold splice;simp only[jT,fI]
  rw[cW (by omega),m.out,cL,T];rfl
 .rw[dK (by omega),eU (by omega)]
 .rw[eU (by simp;omega)]
structure xK (w:World)(g n:Nat)(bs:List Bool):Prop where
 eC:∃Z:Array Value,w.heap[g]?=some (.cells Z 4 (0,0))/\Z.size=n+2/\(∀(i:Nat) (x:Bool),bs[i]?=some x->Z[i]?=some (.bool x))/\Z[n]?=some (.bool true)/\Z[n+1]?=some (.bool false)
theorem zy (w:World):Calls prog 103 #[.slice none 0 0] w fun e w'=>e= .returned (.slice none 0 0)/\w'=w:=by
 have a:=MR;go_wp2;go_ret;exact⟨rfl,rfl⟩
theorem yx (b o n c:Nat)(q:List Bool)(w:World)(U:q.length=n)(hc:n<=c)(hn:n<=140737488355328)(hb:b<w.heap.size)(g:∀(i:Nat) (s:Bool),q[i]?=some s->w.cell? ⟨b,o+i,none⟩=some (.bool s)):Calls prog 103 #[.slice (some ⟨b,o,none⟩) n c] w fun e w'=>e= .returned (.slice (some ⟨w.heap.size,0,none⟩) n (n+2))/\xK w' w.heap.size n q/\Below w.heap.size w w':=by
 obtain⟨V,P,D,E,W⟩:∃i,prog.info? 4=some i/\i.zero=some (.bool false)/\i.size=1/\i.bytes=1:=info_parts (by kernel_rfl);have X:=cb g;have Y:=cb U;have h1:=MT b o n c;go_enter func103,ntmps103;go_wp2_with (refine oR _ rfl _ _ 89 rfl w.heap.size 4 V (.bool false) 1 ju P D E _ _ _ _ (n+2) rfl rfl (by omega) (by omega) (by grind) (by unfold maxLen;omega) (PC _) ?_)
 intro F f k;have l:Hid (Below w.heap.size w F):=(ct _ _).grown k (PC _) (fun _ h=>by cases h);obtain⟨L,H,r,I⟩:∃L:List Value,Hid (L=(madeCells #[Value.bool false] (n+2)).toList)/\F.heap[w.heap.size]?=some (.cells L.toArray 4 (0,0))/\L.length=n+2:=⟨_,(show _=_ from rfl),vy f⟩
 obtain⟨d,t⟩:∃d:List Value,d=q.map Value.bool:=⟨_,rfl⟩
 have m:=cb t;have u:=cb r;have Z:d.length=n:=by simp_all
 clear t f;have y:Hid (∀(j:Nat) v,d[j]?=some v->F.cell? ((⟨b,o,none⟩:Addr).add j)=some v):=by
  intro j v p;rw[m.out,cL]at p;cases J:q[j]?with
  |none=>rw[J]at p;cases p
  |some x=>
   rw[J]at p;simp at p;subst p;have:=(l.out.cell (p:=⟨b,o+j,none⟩) hb).trans (X.out j x J);unfold Addr.add;split
   .subst_vars;simpa using this
   .exact this
 have K:Hid ((prog.info? 4).map (·.size)=some 1):=(show _=_ by kernel_rfl)
 have z:Hid (∀v∈d,v.oneCell'=true):=by
  intro v Q;rw[m.out]at Q;obtain⟨x,_,rfl⟩:=dA.1 Q;rfl
 go_wp2_with (refine wpList_copy_splice rfl _ _ 89 89 rfl 4 ju K.out _ _ _ _ _ _ rfl rfl w.heap.size 0 L 4 u.out d (by grind) (fun _=>⟨rfl,_,rfl,y.out⟩) (by omega) z.out w.heap.size w l.out (PC _) ?_)
 intro w2 a A;have M:=cb A;have R:=cA a.out;have aa:=dN a.out;obtain⟨S,B⟩:∃S:Array Value,S=(splice L 0 d).toArray:=⟨_,rfl⟩
 have N:S.size=n+2:=by rw[B];simp only[ki];rw[length_splice _ _ _ (by omega)];exact I
 have HS:=cb B;rw[<-B]at a;obtain⟨v0,C⟩:∃v,S[n]?=some v:=⟨S[n]'(by omega),dZ _⟩
 have O:Hid (S[n+1]?=some (.bool false)):=by
  show _=_;rw[B,eQ];unfold splice;simp only[jT,fI]
  rw[dg (by omega),iy,H.out,Array.getElem?_toList];have e:0+d.length+(n+1-d.length)=n+1:=by omega
  rw[e];simp[madeCells,Nat.mod_one]
 have c0:w2.cell? ⟨w.heap.size,n,none⟩=some v0:=(cn a.out n).trans C;clear C B;clear A l u;go_wp2;go_ret;refine⟨rfl,⟨⟨_,dh a.out (i:=n) _,by simpa using N,?_,?_,?_⟩⟩,M.out.setCell (p:=⟨w.heap.size,n,none⟩) (PC _) _⟩
 .intro i x T;have P:i<n:=by rw[<-Y.out];exact(cq.1 T).1
  rw[dK (by omega),HS.out,eQ];unfold splice;simp only[jT,fI]
  rw[cW (by omega),m.out,cL,T];rfl
 .rw[eU (by omega)]
 .rw[dK (by omega)];exact O.out
variable {g:Nat}{w w':World}
structure oE (g:Nat)(w w':World):Prop where
 jx:Below g w w'
 rest:∀k,k≠g->w'.heap[k]?=w.heap[k]?
theorem oE.refl (g:Nat)(w:World):oE g w w:=⟨ct _ _,fun _ _=>rfl⟩
theorem oE.drewN (h:oE g w w')(q:Nat):oE g w (w'.drewN q):=⟨cV h.jx q,h.rest⟩
theorem oE.set (h:oE g w w')(i:Nat)(v:Value):oE g w (w'.setCell ⟨g,i,none⟩ v):=by
 refine⟨h.jx.setCell (p:=⟨g,i,none⟩) (PC _) v,fun k a=>?_⟩;rw[<-h.rest k a];simp[World.setCell,Array.getElem?_modify,Ne.symm a]
theorem zg (v:Value)(w:World):Calls prog 102 #[v,.slice none 0 0] w fun e w'=>e= .returned (.bool true)/\w'=w:=by
 have a:=MQ;go_wp2;go_ret;exact⟨rfl,rfl⟩
theorem xz (g b o n c:Nat)(d:List ByteArray)(w:World)(y:xL w g n d)(z:d.length=n)(O:n<=c)(P:n<=8796093022208)(hb:b<g)(a:∀(i:Nat) (s:ByteArray),d[i]?=some s->w.cell? ⟨b,o+i,none⟩=some (.string s)):Calls prog 102 #[.slice (some ⟨g,0,none⟩) n (n+2),.slice (some ⟨b,o,none⟩) n c] w fun e w'=>e= .returned (.bool true)/\oE g w w':=by
 obtain⟨Z,m,A,B,C,D⟩:=y;have E:=cb a;have F:=cb z;have H:=cb m;have p:=cb B;have Q:=(cn m n).trans C;have R:=(cn m (n+1)).trans D;have S:=MS b o n c;go_wp2;go_loopw [6,7] (fun k i wr=>∃j:Nat,j<=n/\i= .int .i64 j/\k= .bool true/\Hid (oE g w wr/\∃Y:Array Value,wr.heap[g]?=some (.cells Y 9 (0,0))/\Y.size=n+2/\∀(i:Nat) (x:ByteArray),j<=i->d[i]?=some x->Y[i]?=some (.string x))) (fun _ i _=>n-(intOf i).toNat)
 case atStart=>exact⟨0,cG _,rfl,rfl,⟨oE.refl _ _,Z,H.out,A,fun i x _ h=>p.out i x h⟩⟩
 case round=>
  obtain⟨j,T,rfl,rfl,f⟩:=hrel;by_cases q:j<n
  .obtain⟨x,u⟩:∃x,d[j]?=some x:=⟨d[j]'(by rw[F.out];exact q),cp _⟩
   obtain⟨Y,l,I,v⟩:=f.out.2;have d0:=(cn l j).trans (v j x (PC _) u);have d1:=(f.out.1.jx.cell (p:=⟨b,o+j,none⟩) hb).trans (E.out j x u);have J:=dN l;have K:=cA l;have L:=cb l;have r:=cb v;go_wp2_with fail
   go_quiet (fail)
   go_wp2;go_roundw;case rel=>
    refine⟨j+1,by omega,by go_num,rfl,⟨((f.out.1.drewN _).set _ _),_,dh (show(wr.drewN _).heap[g]?=_ from L.out) (i:=j) _,by simpa using I,?_⟩⟩;intro i M U t;rw[dK (by omega)];exact r.out i M (by omega) t
   case measure=>simp[intOf];omega
  .have N:j=n:=by omega
   go_wp2;go_ret;exact⟨rfl,f.out.1⟩
theorem ze (v:Value)(w:World):Calls prog 105 #[v,.slice none 0 0] w fun e w'=>e= .returned (.bool true)/\w'=w:=by
 have a:=MR;go_wp2;go_ret;exact⟨rfl,rfl⟩
theorem xy (g b o n c:Nat)(d:List Bool)(w:World)(y:xK w g n d)(z:d.length=n)(N:n<=c)(O:n<=140737488355328)(hb:b<g)(a:∀(i:Nat) (s:Bool),d[i]?=some s->w.cell? ⟨b,o+i,none⟩=some (.bool s)):Calls prog 105 #[.slice (some ⟨g,0,none⟩) n (n+2),.slice (some ⟨b,o,none⟩) n c] w fun e w'=>e= .returned (.bool true)/\oE g w w':=by
 obtain⟨Z,l,A,B,C,D⟩:=y;have E:=cb a;have F:=cb z;have H:=cb l;have m:=cb B;have P:=(cn l n).trans C;have Q:=(cn l (n+1)).trans D;have R:=MT b o n c;go_wp2;go_loopw [6,7] (fun k i wr=>∃j:Nat,j<=n/\i= .int .i64 j/\k= .bool true/\Hid (oE g w wr/\∃Y:Array Value,wr.heap[g]?=some (.cells Y 4 (0,0))/\Y.size=n+2/\∀(i:Nat) (x:Bool),j<=i->d[i]?=some x->Y[i]?=some (.bool x))) (fun _ i _=>n-(intOf i).toNat)
 case atStart=>exact⟨0,cG _,rfl,rfl,⟨oE.refl _ _,Z,H.out,A,fun i x _ h=>m.out i x h⟩⟩
 case round=>
  obtain⟨j,S,rfl,rfl,f⟩:=hrel;by_cases p:j<n
  .obtain⟨x,u⟩:∃x,d[j]?=some x:=⟨d[j]'(by rw[F.out];exact p),cp _⟩
   obtain⟨Y,q,I,v⟩:=f.out.2;have d0:=(cn q j).trans (v j x (PC _) u);have d1:=(f.out.1.jx.cell (p:=⟨b,o+j,none⟩) hb).trans (E.out j x u);have J:=cA q;have K:=cb q;have r:=cb v;go_wp2_with fail
   go_quiet (fail)
   go_wp2;go_roundw;case rel=>
    exact⟨j+1,by omega,by go_num,rfl,⟨f.out.1.drewN _,Y,K.out,I,fun i L T t=>r.out i L (by omega) t⟩⟩
   case measure=>simp[intOf];omega
  .have M:j=n:=by omega
   go_wp2;go_ret;exact⟨rfl,f.out.1⟩
section
variable (x:Addr)
theorem MU (n c:Nat)(w:World):(binOp .eql 34 (.slice (some x) n c) (.slice none 0 0)).run prog w= .ok (.bool false) w:=by kernel_rfl
theorem MV (n c:Nat)(w:World):(binOp .eql 89 (.slice (some x) n c) (.slice none 0 0)).run prog w= .ok (.bool false) w:=by kernel_rfl
theorem xp (w:World):Calls prog 100 #[.slice (some x) 0 0] w fun e w'=>e= .returned (.slice (some ⟨w.heap.size,0,none⟩) 0 (0+2))/\xL w' w.heap.size 0 []/\Below w.heap.size w w':=by
 obtain⟨p,q,f,g,r⟩:∃i,prog.info? 9=some i/\i.zero=some (.string ⟨#[]⟩)/\i.size=1/\i.bytes=16:=info_parts (by kernel_rfl);have z:=MU x 0 0;have j:Hid ((prog.info? 9).map (·.size)=some 1):=(show _=_ by kernel_rfl)
 go_enter func100,ntmps100;go_wp2_with (refine oR _ rfl _ _ 34 rfl w.heap.size 9 p (.string ⟨#[]⟩) 1 eO q f g _ _ _ _ 2 rfl rfl rfl rfl (by omega) (by unfold maxLen;omega) (PC _) ?_)
 intro o d b;have k:Hid (Below w.heap.size w o):=(ct _ _).grown b (PC _) (fun _ h=>by cases h);have c:=vy d;obtain⟨L,s,a,t⟩:∃L:List Value,L=(madeCells #[Value.string ⟨#[]⟩] 2).toList/\o.heap[w.heap.size]?=some (.cells L.toArray 9 (0,0))/\L.length=2:=⟨_,rfl,c⟩
 have l:=cb a;have u:=dN a;obtain⟨A,m⟩:∃v,L.toArray[0]?=some v:=⟨L.toArray[0]'(by simp;omega),dZ _⟩
 obtain⟨B,n⟩:∃v,L.toArray[1]?=some v:=⟨L.toArray[1]'(by simp;omega),dZ _⟩
 have C:=(cn a 0).trans m;have D:=(cn a 1).trans n;go_wp2_with (refine wpList_copy_nothing rfl _ _ 34 34 rfl 9 eO j.out _ _ _ _ _ _ rfl rfl rfl ?_)
 go_ret;refine⟨rfl,⟨⟨_,dh (dh l.out (i:=0) _) (i:=1) _,by grind,fun i x y=>by simp at y,?_,?_⟩⟩,(k.out.setCell (p:=⟨w.heap.size,0,none⟩) (PC _) _).setCell (p:=⟨w.heap.size,1,none⟩) (PC _) _⟩
 .rw[dK (by omega),eU (by simp;omega)]
 .rw[eU (by simp;omega)]
theorem xo (w:World):Calls prog 103 #[.slice (some x) 0 0] w fun e w'=>e= .returned (.slice (some ⟨w.heap.size,0,none⟩) 0 (0+2))/\xK w' w.heap.size 0 []/\Below w.heap.size w w':=by
 obtain⟨q,r,f,g,s⟩:∃i,prog.info? 4=some i/\i.zero=some (.bool false)/\i.size=1/\i.bytes=1:=info_parts (by kernel_rfl);have A:=MV x 0 0;have j:Hid ((prog.info? 4).map (·.size)=some 1):=(show _=_ by kernel_rfl)
 go_enter func103,ntmps103;go_wp2_with (refine oR _ rfl _ _ 89 rfl w.heap.size 4 q (.bool false) 1 ju r f g _ _ _ _ 2 rfl rfl rfl rfl (by omega) (by unfold maxLen;omega) (PC _) ?_)
 intro p d b;have k:Hid (Below w.heap.size w p):=(ct _ _).grown b (PC _) (fun _ h=>by cases h);have c:=vy d;obtain⟨L,l,a,t⟩:∃L:List Value,L=(madeCells #[Value.bool false] 2).toList/\p.heap[w.heap.size]?=some (.cells L.toArray 4 (0,0))/\L.length=2:=⟨_,rfl,c⟩
 have m:=cb l;have n:=cb a;have u:=dN a;obtain⟨B,o⟩:∃v,L.toArray[0]?=some v:=⟨L.toArray[0]'(by simp;omega),dZ _⟩
 obtain⟨C,y⟩:∃v,L.toArray[1]?=some v:=⟨L.toArray[1]'(by simp;omega),dZ _⟩
 have D:=(cn a 0).trans o;go_wp2_with (refine wpList_copy_nothing rfl _ _ 89 89 rfl 4 ju j.out _ _ _ _ _ _ rfl rfl rfl ?_)
 go_ret;refine⟨rfl,⟨⟨_,dh n.out (i:=0) _,by grind,fun i x z=>by simp at z,?_,?_⟩⟩,k.out.setCell (p:=⟨w.heap.size,0,none⟩) (PC _) _⟩
 .rw[eU (by simp;omega)]
 .rw[dK (by omega),m.out];simp[madeCells,Nat.mod_one]
theorem wE (g:Nat)(w:World)(b:xL w g 0 []):Calls prog 102 #[.slice (some ⟨g,0,none⟩) 0 (0+2),.slice (some x) 0 0] w fun e w'=>e= .returned (.bool true)/\oE g w w':=by
 obtain⟨Z,a,f,h,c,d⟩:=b;have j:=(cn a 0).trans c;have l:=(cn a 1).trans d;have m:=MU x 0 0;go_wp2;go_loop [6,7] (fun k i=>k= .bool true/\i= .int .i64 0) (fun _ _=>0)
 case atStart=>exact⟨rfl,rfl⟩
 case round=>
  go_wp2;go_ret;exact⟨rfl,oE.refl _ _⟩
theorem wD (g:Nat)(w:World)(b:xK w g 0 []):Calls prog 105 #[.slice (some ⟨g,0,none⟩) 0 (0+2),.slice (some x) 0 0] w fun e w'=>e= .returned (.bool true)/\oE g w w':=by
 obtain⟨Z,a,f,h,c,d⟩:=b;have j:=(cn a 0).trans c;have l:=(cn a 1).trans d;have m:=MV x 0 0;go_wp2;go_loop [6,7] (fun k i=>k= .bool true/\i= .int .i64 0) (fun _ _=>0)
 case atStart=>exact⟨rfl,rfl⟩
 case round=>
  go_wp2;go_ret;exact⟨rfl,oE.refl _ _⟩
end
def AK (x y:Int)(s:ByteArray):Prop:=1<=x/\x<=4/\1<=y/\y<=16/\iX s=true
theorem Nt {p:Prop}(h:p):Hid p:=h
section
variable (x y:Int)(s:ByteArray)(w:World)
theorem Ih (c:s.size<=maxLen)(h:AK x y s):Calls prog 23 #[.int .i64 x,.int .i64 y,.string s] w fun e w'=>e= .returned (.tuple #[.int .i64 (fE x.toNat y.toNat s),.int .i64 0])/\w'=w:=by
 obtain⟨f,g,i,j,d⟩:=h;obtain⟨a,rfl⟩:=js (show 0<=x by omega);obtain⟨b,rfl⟩:=js (show 0<=y by omega);exact Kx a b s w (by omega) (by omega) (by omega) (by omega) d c
theorem Ig (c:s.size<=maxLen)(h:¬AK x y s):Calls prog 23 #[.int .i64 x,.int .i64 y,.string s] w fun e w'=>e= .returned (.tuple #[.int .i64 0,.int .i64 1])/\w'=w:=by
 cases a:qM x y with
 |false=>
  go_enter func23,ntmps23;go_wp2_with (first|(refine(vG _ _ _).mono ?_;rintro e w' ⟨rfl,rfl⟩))
  go_ret2;exact⟨rfl,rfl⟩
 |true=>
  have b:iX s=false:=by
   cases b:iX s with
   |false=>rfl
   |true=>
    exfalso;apply h;simp only[qM,eF,cO,cX]at a;exact⟨a.1.1,a.1.2,a.2.1,a.2.2,b⟩
  go_enter func23,ntmps23;go_wp2_with (first|(refine(vG _ _ _).mono ?_;rintro e w' ⟨rfl,rfl⟩)|(refine(pT _ _ c).mono ?_;rintro e w' ⟨rfl,rfl⟩))
  go_ret2;exact⟨rfl,rfl⟩
theorem BM (c:s.size<=maxLen)(h:AK x y s):Calls prog 98 #[.int .i64 x,.int .i64 y,.string s] w fun e w'=>e= .returned (.tuple #[.int .i64 (fE x.toNat y.toNat s),.int .i64 0])/\∃q,w'=w.drewN q:=by
 obtain⟨d,f,g,i,j⟩:=h;obtain⟨a,rfl⟩:=js (show 0<=x by omega);obtain⟨b,rfl⟩:=js (show 0<=y by omega);have k:¬(a:Int)<1:=by omega
 have l:¬4<(a:Int):=by omega
 have m:¬(b:Int)<1:=by omega
 have n:¬16<(b:Int):=by omega
 have o:((a:Int)).toNat=a:=by omega
 have p:((b:Int)).toNat=b:=by omega
 have HO:=Nt (vE a b s w (by omega) (by omega) (by omega) (by omega) c);go_enter func98,ntmps98;go_wp2_with (first|(refine(mB _ _ c).mono ?_;rintro e w' ⟨rfl,rfl⟩)|(refine HO.out.mono ?_;rintro e w' ⟨rfl,q,rfl⟩))
 go_ret2;exact⟨rfl,_,rfl⟩
theorem BL (a:s.size<=maxLen)(h:¬AK x y s):Calls prog 98 #[.int .i64 x,.int .i64 y,.string s] w fun e w'=>e= .returned (.tuple #[.int .i64 0,.int .i64 1])/\w'=w:=by
 cases c:iX s with
 |false=>
  clear h;go_enter func98,ntmps98;go_wp2_with (go_at_call 137;refine(mB _ _ a).mono ?_;rintro e w' ⟨rfl,rfl⟩)
  all_goals(go_ret2;exact⟨rfl,rfl⟩)
 |true=>
  have d:x<1\/(1<=x/\4<x)\/(1<=x/\x<=4/\y<1)\/(1<=x/\x<=4/\1<=y/\16<y):=by
   unfold AK at h;simp only[c,and_true]at h;omega
  clear h;rcases d with h|⟨h,b⟩|⟨h,b,f⟩|⟨h,b,f,g⟩
  all_goals
   go_enter func98,ntmps98
   go_wp2_with (go_at_call 137;refine(mB _ _ a).mono ?_;rintro e w' ⟨rfl,rfl⟩)
   all_goals(go_ret2;exact⟨rfl,rfl⟩)
end
variable {w w':World}{g n m l j p b:Nat}{d:List ByteArray}{f a:Option Addr}
theorem Mn (x y:Int)(s:ByteArray)(a:s.size<=maxLen):∃N E:Int,(∀W,Calls prog 23 #[.int .i64 x,.int .i64 y,.string s] W fun e w'=>e= .returned (.tuple #[.int .i64 N,.int .i64 E])/\w'=W)/\(∀W,Calls prog 98 #[.int .i64 x,.int .i64 y,.string s] W fun e w'=>e= .returned (.tuple #[.int .i64 N,.int .i64 E])/\∃q,w'=W.drewN q):=by
 by_cases h:AK x y s
 .exact⟨_,_,fun W=>Ih x y s W a h,fun W=>BM x y s W a h⟩
 .exact⟨_,_,fun W=>Ig x y s W a h,fun W=>(BL x y s W a h).mono fun e w' ⟨b,c⟩=>⟨b,0,c⟩⟩
theorem zX (a:Int)(d:Int)(f:Value)(b g:ByteArray)(h:Bool)(c:Int)(i:Int)(j k:Value)(l:ByteArray)(m n g2:Int)(s:ByteArray)(x y:Int)(w:World)(o:s.size<=maxLen):Calls prog 66 #[Se 3 a d f b g h c i j k l m n g2 s x y] w fun e w'=>e= .returned (.bool true)/\Below w.heap.size w w':=by
 obtain⟨N,E,p,r⟩:=Mn x y s o;have t:=cb p;have u:=cb r;unfold Se;go_enter func66,ntmps66;go_wp2_with fail
 refine(t.out _).mono ?_;rintro e v ⟨rfl,z⟩;go_wp2_with fail
 refine(u.out _).mono ?_;rintro e v ⟨rfl,q,rfl⟩;go_wp2;go_ret;exact⟨rfl,cV cU _⟩
structure gD (w:World)(g0 g9:Nat)(a':Option Addr)(n c':Nat)(ss:List ByteArray)(a:Option Addr):Prop where
 form:(a=none/\a'=none/\n=0/\c'=0)\/(∃g,g0<=g/\g<g9/\a'=some ⟨g,0,none⟩/\c'=n+2/\xL w g n ss/\a≠none)
theorem yy (h:xL w g n d):g<w.heap.size:=by
 obtain⟨Z,a,_⟩:=h;exact cA a
theorem EK (h:xL w g n d)(b:d.length=n)(c:d.length<=140737488355328)(e:∀s∈d,s.size<=maxLen):dH w (some ⟨g,0,none⟩) n (n+2) d:=by
 obtain⟨Z,a,k,f,_⟩:=h;refine⟨b,by omega,c,e,.inl ⟨g,0,rfl,cA a,fun i s j=>?_⟩⟩;rw[eB];exact(cn a i).trans (f i s j)
theorem gD.strs (h:gD w m l f n j d a)(b:d.length=n)(c:d.length<=140737488355328)(e:∀s∈d,s.size<=maxLen):dH w f n j d:=by
 rcases h with⟨_,rfl,rfl,rfl⟩|⟨g,p,i,rfl,rfl,k,o⟩
 .exact⟨b,PC _,c,e,.inr ⟨jm b,rfl⟩⟩
 .exact EK k b c e
theorem gD.keep (h:gD w m l f n j d a)(o:∀g,m<=g->g<l->g<w.heap.size->w'.heap[g]?=w.heap[g]?):gD w' m l f n j d a:=by
 rcases h with h|⟨g,i,b,p,q,k,c⟩
 .exact⟨.inl h⟩
 .refine⟨.inr ⟨g,i,b,p,q,?_,c⟩⟩;have e:=yy k;obtain⟨Z,r,z⟩:=k;exact⟨⟨Z,(o g i b e).trans r,z⟩⟩
theorem gD.later (h:gD w m l f n j d a)(c:Below w.heap.size w w'):gD w' m l f n j d a:=
 h.keep fun g _ _ b=>c.block g b
theorem gD.set (h:gD w m l f n j d a)(b i:Nat)(v:Value)(hb:b<m\/l<=b):gD (w.setCell ⟨b,i,none⟩ v) m l f n j d a:=
 h.keep fun g c e _=>cz w ⟨b,i,none⟩ v g (by grind)
theorem yA (a:Option Addr)(n c:Nat)(d:List ByteArray)(w:World)(m:dH w a n c d)(p:n<=8796093022208):Calls prog 100 #[.slice a n c] w fun e w'=>∃f j,e= .returned (.slice f n j)/\gD w' w.heap.size w'.heap.size f n j d a/\Below w.heap.size w w':=by
 obtain⟨l,q,t,u,r⟩:=m;rcases r with⟨b,o,rfl,s,g⟩|⟨rfl,rfl⟩
 .refine(yz b o n c d w l q p s g).mono fun e w' ⟨i,h,k⟩=>⟨_,_,i,⟨.inr ⟨_,PC _,yy h,rfl,rfl,h,by simp⟩⟩,k⟩
 .subst l;cases a with
  |none=>
   refine(zz w).mono fun e w' ⟨i,h⟩=>?_
   subst h;exact⟨none,0,i,⟨.inl ⟨rfl,rfl,rfl,rfl⟩⟩,ct _ _⟩
  |some x=>
   exact(xp x w).mono fun e w' ⟨i,h,k⟩=>⟨_,_,i,⟨.inr ⟨_,PC _,yy h,rfl,rfl,h,by simp⟩⟩,k⟩
structure rK (g0 g9:Nat)(w w':World):Prop where
 jx:Below g0 w w'
 rest:∀k,g9<=k->w'.heap[k]?=w.heap[k]?
theorem gD.still (h:gD w m l f n j d a)(c:rK p b w w')(hd:l<=p\/b<=m):gD w' m l f n j d a:=
 h.keep fun g e i _=>by
  rcases hd with hd|hd
  .exact c.jx.block g (by omega)
  .exact c.rest g (by omega)
theorem wF (m l:Nat)(a f:Option Addr)(n c j:Nat)(d:List ByteArray)(u w:World)(C:dH u a n c d)(D:n<=8796093022208)(p:u.heap.size<=m)(E:Below u.heap.size u w)(F:gD w m l f n j d a):Calls prog 102 #[.slice f n j,.slice a n c] w fun e w'=>e= .returned (.bool true)/\rK m l w w':=by
 obtain⟨y,H,L,M,z⟩:=C;rcases F with⟨rfl,rfl,rfl,rfl⟩|⟨g,A,I,rfl,rfl,B,v⟩
 .rcases z with⟨b,o,h,_⟩|⟨rfl,rfl⟩
  .cases h
  .exact(zg _ w).mono fun e w' ⟨t,q⟩=>⟨t,by subst q;exact⟨ct _ _,fun _ _=>rfl⟩⟩
 .rcases z with⟨b,o,rfl,J,r⟩|⟨rfl,rfl⟩
  .refine(xz g b o n c d w B y H D (by omega) fun i s h=>(E.cell (p:=⟨b,o+i,none⟩) J).trans (r i s h)).mono fun e w' ⟨t,q⟩=>⟨t,q.jx.mono A,fun k K=>q.rest k (by omega)⟩
  .cases a with
   |none=>exact absurd rfl v
   |some x=>
    subst y;exact(wE x g w B).mono fun e w' ⟨t,q⟩=>⟨t,q.jx.mono A,fun k K=>q.rest k (by omega)⟩
structure ik (w:World)(g0 g9:Nat)(a':Option Addr)(n c':Nat)(ss:List Bool)(a:Option Addr):Prop where
 form:(a=none/\a'=none/\n=0/\c'=0)\/(∃g,g0<=g/\g<g9/\a'=some ⟨g,0,none⟩/\c'=n+2/\xK w g n ss/\a≠none)
section
variable {d:List Bool}
theorem yw (h:xK w g n d):g<w.heap.size:=by
 obtain⟨Z,a,_⟩:=h;exact cA a
theorem CV (h:xK w g n d)(b:d.length=n)(c:d.length<=140737488355328):eZ w (some ⟨g,0,none⟩) n (n+2) d:=by
 obtain⟨Z,a,j,e,_⟩:=h;refine⟨b,by omega,c,.inl ⟨g,0,rfl,cA a,fun i s f=>?_⟩⟩;rw[eB];exact(cn a i).trans (e i s f)
theorem ik.Jy (h:ik w m l f n j d a)(b:d.length=n)(c:d.length<=140737488355328):eZ w f n j d:=by
 rcases h with⟨_,rfl,rfl,rfl⟩|⟨g,o,e,rfl,rfl,i,k⟩
 .exact⟨b,PC _,c,.inr ⟨jm b,rfl⟩⟩
 .exact CV i b c
theorem ik.keep (h:ik w m l f n j d a)(o:∀g,m<=g->g<l->g<w.heap.size->w'.heap[g]?=w.heap[g]?):ik w' m l f n j d a:=by
 rcases h with h|⟨g,i,b,p,q,k,c⟩
 .exact⟨.inl h⟩
 .refine⟨.inr ⟨g,i,b,p,q,?_,c⟩⟩;have e:=yw k;obtain⟨Z,r,z⟩:=k;exact⟨⟨Z,(o g i b e).trans r,z⟩⟩
theorem ik.later (h:ik w m l f n j d a)(c:Below w.heap.size w w'):ik w' m l f n j d a:=
 h.keep fun g _ _ b=>c.block g b
theorem ik.set (h:ik w m l f n j d a)(b i:Nat)(v:Value)(hb:b<m\/l<=b):ik (w.setCell ⟨b,i,none⟩ v) m l f n j d a:=
 h.keep fun g c e _=>cz w ⟨b,i,none⟩ v g (by grind)
end
theorem Hm (a:Option Addr)(n c:Nat)(d:List Bool)(w:World)(m:eZ w a n c d)(p:n<=140737488355328):Calls prog 103 #[.slice a n c] w fun e w'=>∃f j,e= .returned (.slice f n j)/\ik w' w.heap.size w'.heap.size f n j d a/\Below w.heap.size w w':=by
 obtain⟨l,q,t,r⟩:=m;rcases r with⟨b,o,rfl,s,g⟩|⟨rfl,rfl⟩
 .refine(yx b o n c d w l q p s g).mono fun e w' ⟨i,h,k⟩=>⟨_,_,i,⟨.inr ⟨_,PC _,yw h,rfl,rfl,h,by simp⟩⟩,k⟩
 .subst l;cases a with
  |none=>
   refine(zy w).mono fun e w' ⟨i,h⟩=>?_
   subst h;exact⟨none,0,i,⟨.inl ⟨rfl,rfl,rfl,rfl⟩⟩,ct _ _⟩
  |some x=>
   exact(xo x w).mono fun e w' ⟨i,h,k⟩=>⟨_,_,i,⟨.inr ⟨_,PC _,yw h,rfl,rfl,h,by simp⟩⟩,k⟩
theorem ik.still {d:List Bool}(h:ik w m l f n j d a)(c:rK p b w w')(hd:l<=p\/b<=m):ik w' m l f n j d a:=
 h.keep fun g e i _=>by
  rcases hd with hd|hd
  .exact c.jx.block g (by omega)
  .exact c.rest g (by omega)
theorem Fq (m l:Nat)(a f:Option Addr)(n c j:Nat)(d:List Bool)(u w:World)(C:eZ u a n c d)(D:n<=140737488355328)(p:u.heap.size<=m)(E:Below u.heap.size u w)(F:ik w m l f n j d a):Calls prog 105 #[.slice f n j,.slice a n c] w fun e w'=>e= .returned (.bool true)/\rK m l w w':=by
 obtain⟨y,H,L,z⟩:=C;rcases F with⟨rfl,rfl,rfl,rfl⟩|⟨g,A,I,rfl,rfl,B,v⟩
 .rcases z with⟨b,o,h,_⟩|⟨rfl,rfl⟩
  .cases h
  .exact(ze _ w).mono fun e w' ⟨t,q⟩=>⟨t,by subst q;exact⟨ct _ _,fun _ _=>rfl⟩⟩
 .rcases z with⟨b,o,rfl,J,r⟩|⟨rfl,rfl⟩
  .refine(xy g b o n c d w B y H D (by omega) fun i s h=>(E.cell (p:=⟨b,o+i,none⟩) J).trans (r i s h)).mono fun e w' ⟨t,q⟩=>⟨t,q.jx.mono A,fun k K=>q.rest k (by omega)⟩
  .cases a with
   |none=>exact absurd rfl v
   |some x=>
    subst y;exact(wD x g w B).mono fun e w' ⟨t,q⟩=>⟨t,q.jx.mono A,fun k K=>q.rest k (by omega)⟩
theorem Qm (b:Bool)(s:ByteArray):∃(S:ByteArray) (E:Int),Du b s= .tuple #[.string S,.int .i64 E]:=by
 cases b
 .exact⟨_,_,rfl⟩
 .exact⟨_,_,rfl⟩
theorem DR (J:Int)(q:Int)(a:Option Addr)(n c:Nat)(d:List ByteArray)(b B:ByteArray)(C:Bool)(i:Int)(T:Int)(U V:Value)(X:ByteArray)(m Y g2:Int)(s:ByteArray)(x y:Int)(w:World)(r:dH w a n c d)(K:b.size<=maxLen)(L:n<=8796093022208):Calls prog 66 #[Se 1 J q (.slice a n c) b B C i T U V X m Y g2 s x y] w fun e w'=>e= .returned (.bool true)/\Below w.heap.size w w':=by
 have t:=PE w;obtain⟨S,E,u⟩:=Qm (fp q d b&&jY x q n y) (uy x q d b y);have P:Hid (∀W,Below w.heap.size w W->Calls prog 100 #[.slice a n c] W fun e w'=>∃f j,e= .returned (.slice f n j)/\gD w' W.heap.size w'.heap.size f n j d a/\Below W.heap.size W w'):=fun W M=>yA a n c d W (r.later M) L
 have Z:Hid (∀W f j,dH W f n j d->Calls prog 21 #[.int .i64 x,db q (.slice f n j) b B C i,.int .i64 y] W fun e w'=>e= .returned (.tuple #[.string S,.int .i64 E])/\Below W.heap.size W w'):=fun W f j h=>by rw[<-u];exact Lq x q f n j d b B C i y W h K
 have HR:Hid (∀W,Below w.heap.size w W->Calls prog 101 #[.int .i64 x,db q (.slice a n c) b B C i,.int .i64 y] W fun e w'=>e= .returned (.tuple #[.string S,.int .i64 E])/\Below W.heap.size W w'):=fun W h=>by rw[<-u];exact QW x q a n c d b B C i y W (r.later h) K
 have HS:Hid (∀W g l f j,w.heap.size<=g->Below w.heap.size w W->gD W g l f n j d a->Calls prog 102 #[.slice f n j,.slice a n c] W fun e w'=>e= .returned (.bool true)/\rK g l W w'):=fun W g l f j hg M hO=>wF g l a f n c j d w W r L hg M hO
 have HQ:Hid (∀W g l f j,gD W g l f n j d a->dH W f n j d):=fun W g l f j h=>h.strs r.len r.small r.zd
 clear r K L u;unfold db Se at*;go_enter func66,ntmps66;go_wp2_with fail
 go_at_call 100;refine(P.out _ (t.out _ _)).mono ?_;rintro e v ⟨f,j,rfl,z,p⟩;obtain⟨aa,ab⟩:=jE p;have ac:w.heap.size+1<v.heap.size:=by have:=p.size;simp at this;omega
 have ad:w.heap.size<v.heap.size:=by omega
 have D:Hid (Below w.heap.size w (v.setCell ⟨w.heap.size+1,1,none⟩ (.slice f n j))):=((t.out _ _).trans (p.mono (by simp;omega))).setCell (p:=⟨w.heap.size+1,1,none⟩) (by simp) _;rw[cF,cF]at z;have A:Hid (gD (v.setCell ⟨w.heap.size+1,1,none⟩ (.slice f n j)) (w.heap.size+1+1) v.heap.size f n j d a):=z.set (w.heap.size+1) 1 _ (.inl (by omega));clear p z P t;go_wp2_with fail
 go_at_call 21;refine(Z.out _ f j (HQ.out _ _ _ _ _ A.out)).mono ?_;rintro e H ⟨rfl,k⟩;obtain⟨ae,af⟩:=jE k;have ag:w.heap.size+1<H.heap.size:=by have:=k.size;simp at this;omega
 have ah:w.heap.size<H.heap.size:=by omega
 have I:Hid (Below w.heap.size w H):=D.out.trans (k.mono (by simp;omega));have F:Hid (gD H (w.heap.size+1+1) v.heap.size f n j d a):=A.out.later k;clear k D A;go_wp2_with fail
 go_at_call 101;refine(HR.out _ I.out).mono ?_;rintro e N ⟨rfl,o⟩;obtain⟨ai,aj⟩:=jE o;have al:w.heap.size+1<N.heap.size:=by have:=o.size;omega
 have Q:Hid (Below w.heap.size w N):=I.out.trans (o.mono I.out.size);have O:Hid (gD N (w.heap.size+1+1) v.heap.size f n j d a):=F.out.later o;clear o I F;go_wp2_with fail
 go_at_call 102;refine(HS.out _ _ _ f j (by omega) Q.out O.out).mono ?_;rintro e w4 ⟨rfl,R⟩;have H4:Hid (Below w.heap.size w w4):=Q.out.trans (R.jx.mono (by omega));clear R;go_wp2;go_ret;exact⟨rfl,H4.out⟩
variable {W w':World}{b:Nat}
theorem QT {B:Nat}(h:Below B W w')(hb:b<B):(∀o,w'.cell? ⟨b,o,none⟩=W.cell? ⟨b,o,none⟩)/\(∀o,w'.frozen? ⟨b,o,none⟩=W.frozen? ⟨b,o,none⟩):=
 ⟨fun o=>cS (w:=W) (h.block b hb),fun o=>by unfold World.frozen?;rw[h.block b hb]⟩
theorem Pp {c a:Nat}(h:rK c a W w')(hb:a<=b):∀o,w'.cell? ⟨b,o,none⟩=W.cell? ⟨b,o,none⟩:=
 fun o=>cS (w:=W) (h.rest b hb)
theorem Cd (k az:Int)(ck:Int)(a:Option Addr)(n c:Nat)(t:List ByteArray)(J cw:ByteArray)(ft:Bool)(V:Int)(ak:Int)(u K:Option Addr)(j fc l vc:Nat)(r:List Bool)(F:List ByteArray)(wd:ByteArray)(g0 g1 g2:Int)(s:ByteArray)(x y:Int)(w:World)(aQ:(k==3)=false)(aR:(k==1)=false)(hs:dH w a n c t)(X:J.size<=maxLen)(hf:eZ w u j fc r)(hv:dH w K l vc F)(hw:wd.size<=maxLen)(hn:n<=8796093022208)(ac:j<=140737488355328)(ad:l<=8796093022208):Calls prog 66 #[Se k az ck (.slice a n c) J cw ft V ak (.slice u j fc) (.slice K l vc) wd g0 g1 g2 s x y] w fun e w'=>e= .returned (.bool true)/\Below w.heap.size w w':=by
 have v:=PE w;obtain⟨S,E,ae⟩:=Qm (eI ck t J ak r F wd&&jY x ck n y) (gZ x ck ak t r F wd y);have an:Hid (∀W,Below w.heap.size w W->Calls prog 100 #[.slice a n c] W fun e w'=>∃b d,e= .returned (.slice b n d)/\gD w' W.heap.size w'.heap.size b n d t a/\Below W.heap.size W w'):=fun W Y=>yA a n c t W (hs.later Y) hn
 have ao:Hid (∀W,Below w.heap.size w W->Calls prog 100 #[.slice K l vc] W fun e w'=>∃b d,e= .returned (.slice b l d)/\gD w' W.heap.size w'.heap.size b l d F K/\Below W.heap.size W w'):=fun W Y=>yA K l vc F W (hv.later Y) ad
 have ap:Hid (∀W,Below w.heap.size w W->Calls prog 103 #[.slice u j fc] W fun e w'=>∃b d,e= .returned (.slice b j d)/\ik w' W.heap.size w'.heap.size b j d r u/\Below W.heap.size W w'):=fun W Y=>Hm u j fc r W (hf.later Y) ac
 have HA:Hid (∀W P Q H I L M,dH W P n Q t->eZ W H j I r->dH W L l M F->Calls prog 87 #[.int .i64 x,db ck (.slice P n Q) J cw ft V,eW ak (.slice H j I) (.slice L l M) wd,.int .i64 y] W fun e w'=>e= .returned (.tuple #[.string S,.int .i64 E])/\Below W.heap.size W w'):=fun W P Q H I L M h1 h2 h3=>by rw[<-ae];exact KZ x ck P n Q t J cw ft V ak H L j I l M r F wd y W h1 X h2 h3 hw
 have HR:Hid (∀W,Below w.heap.size w W->Calls prog 104 #[.int .i64 x,db ck (.slice a n c) J cw ft V,eW ak (.slice u j fc) (.slice K l vc) wd,.int .i64 y] W fun e w'=>e= .returned (.tuple #[.string S,.int .i64 E])/\Below W.heap.size W w'):=fun W h=>by rw[<-ae];exact tp x ck a n c t J cw ft V ak u K j fc l vc r F wd y W (hs.later h) X (hf.later h) (hv.later h) hw
 have aq:Hid (∀W g m b d,w.heap.size<=g->Below w.heap.size w W->gD W g m b n d t a->Calls prog 102 #[.slice b n d,.slice a n c] W fun e w'=>e= .returned (.bool true)/\rK g m W w'):=fun W g m b d hg Y hO=>wF g m a b n c d t w W hs hn hg Y hO
 have ar:Hid (∀W g m b d,w.heap.size<=g->Below w.heap.size w W->gD W g m b l d F K->Calls prog 102 #[.slice b l d,.slice K l vc] W fun e w'=>e= .returned (.bool true)/\rK g m W w'):=fun W g m b d hg Y hO=>wF g m K b l vc d F w W hv ad hg Y hO
 have au:Hid (∀W g m b d,w.heap.size<=g->Below w.heap.size w W->ik W g m b j d r u->Calls prog 105 #[.slice b j d,.slice u j fc] W fun e w'=>e= .returned (.bool true)/\rK g m W w'):=fun W g m b d hg Y hO=>Fq g m u b j fc d r w W hf ac hg Y hO
 have av:Hid (∀W g m b d,gD W g m b n d t a->dH W b n d t):=fun W g m b d h=>h.strs hs.len hs.small hs.zd
 have aw:Hid (∀W g m b d,gD W g m b l d F K->dH W b l d F):=fun W g m b d h=>h.strs hv.len hv.small hv.zd
 have ax:Hid (∀W g m b d,ik W g m b j d r u->eZ W b j d r):=fun W g m b d h=>h.Jy hf.len hf.small
 clear hs hv hn ae X hf hw ac ad;unfold db eW Se at*;go_enter func66,ntmps66;go_wp2_with fail
 go_at_call 100;refine(an.out _ (v.out _ _)).mono ?_;rintro e f ⟨P,Q,rfl,af,aa⟩;obtain⟨aS,aT⟩:=jE aa;have aU:w.heap.size+1<f.heap.size:=by have:=aa.size;simp at this;omega
 have aV:w.heap.size<f.heap.size:=by omega
 have Z:Hid (Below w.heap.size w (f.setCell ⟨w.heap.size+1,1,none⟩ (.slice P n Q))):=((v.out _ _).trans (aa.mono (by simp;omega))).setCell (p:=⟨w.heap.size+1,1,none⟩) (by simp) _;rw[cF,cF]at af;have o:Hid (gD (f.setCell ⟨w.heap.size+1,1,none⟩ (.slice P n Q)) (w.heap.size+1+1) f.heap.size P n Q t a):=af.set (w.heap.size+1) 1 _ (.inl (by omega));clear aa af an v;go_wp2_with fail
 go_at_call 103;refine(ap.out _ (Z.out.alloc Z.out.size _)).mono ?_;rintro e z ⟨H,I,rfl,ag,N⟩;have aW:f.heap.size<z.heap.size:=by have:=N.size;simp at this;omega
 have aB:w.heap.size+1<z.heap.size:=by omega
 have aC:w.heap.size<z.heap.size:=by omega
 obtain⟨aX,aY⟩:=QT N (b:=w.heap.size) (by simp;try omega);obtain⟨aD,aZ⟩:=QT N (b:=w.heap.size+1) (by simp;try omega);obtain⟨a0,a4⟩:=QT N (b:=f.heap.size) (by simp;try omega);have v:Hid (Below w.heap.size w (z.setCell ⟨f.heap.size,1,none⟩ (.slice H j I))):=((Z.out.alloc Z.out.size _).trans (N.mono (by simp;omega))).setCell (p:=⟨f.heap.size,1,none⟩) (by simp;omega) _;have A:Hid (gD (z.setCell ⟨f.heap.size,1,none⟩ (.slice H j I)) (w.heap.size+1+1) f.heap.size P n Q t a):=((o.out.later cU).later N).set _ 1 _ (.inr (PC _));rw[cF,jU]at ag;have B:Hid (ik (z.setCell ⟨f.heap.size,1,none⟩ (.slice H j I)) (f.heap.size+1) z.heap.size H j I r u):=ag.set _ 1 _ (.inl (by omega))
 clear N ag ap o Z;go_wp2_with fail
 go_at_call 100;refine(ao.out _ v.out).mono ?_;rintro e R ⟨L,M,rfl,ah,C⟩;have a5:z.heap.size<=R.heap.size:=by have:=C.size;simpa using this
 have aE:f.heap.size<R.heap.size:=by omega
 have aF:w.heap.size+1<R.heap.size:=by omega
 have aG:w.heap.size<R.heap.size:=by omega
 obtain⟨a6,a7⟩:=QT C (b:=w.heap.size) (by simp;try omega);obtain⟨aH,a8⟩:=QT C (b:=w.heap.size+1) (by simp;try omega);obtain⟨a9,ba⟩:=QT C (b:=f.heap.size) (by simp;try omega);have ai:Hid (Below w.heap.size w (R.setCell ⟨f.heap.size,2,none⟩ (.slice L l M))):=(v.out.trans (C.mono v.out.size)).setCell (p:=⟨f.heap.size,2,none⟩) (by simp;omega) _;have o:Hid (gD (R.setCell ⟨f.heap.size,2,none⟩ (.slice L l M)) (w.heap.size+1+1) f.heap.size P n Q t a):=(A.out.later C).set _ 2 _ (.inr (PC _));have i:Hid (ik (R.setCell ⟨f.heap.size,2,none⟩ (.slice L l M)) (f.heap.size+1) z.heap.size H j I r u):=(B.out.later C).set _ 2 _ (.inl (by omega))
 rw[jU]at ah;have T:Hid (gD (R.setCell ⟨f.heap.size,2,none⟩ (.slice L l M)) z.heap.size R.heap.size L l M F K):=ah.set _ 2 _ (.inl (by omega));clear C ah ao A B v;go_wp2_with fail
 go_at_call 87;refine(HA.out _ P Q H I L M (av.out _ _ _ _ _ o.out) (ax.out _ _ _ _ _ i.out) (aw.out _ _ _ _ _ T.out)).mono ?_;rintro e w4 ⟨rfl,p⟩;have bb:R.heap.size<=w4.heap.size:=by have:=p.size;simpa using this
 have aI:f.heap.size<w4.heap.size:=by omega
 have aJ:w.heap.size+1<w4.heap.size:=by omega
 have aK:w.heap.size<w4.heap.size:=by omega
 obtain⟨bc,bd⟩:=QT p (b:=w.heap.size) (by simp;try omega);obtain⟨aL,be⟩:=QT p (b:=w.heap.size+1) (by simp;try omega);obtain⟨bf,bg⟩:=QT p (b:=f.heap.size) (by simp;try omega);have ab:Hid (Below w.heap.size w w4):=ai.out.trans (p.mono ai.out.size);have A:Hid (gD w4 (w.heap.size+1+1) f.heap.size P n Q t a):=o.out.later p;have B:Hid (ik w4 (f.heap.size+1) z.heap.size H j I r u):=i.out.later p;have D:Hid (gD w4 z.heap.size R.heap.size L l M F K):=T.out.later p;clear p o i T HA ai av ax aw;go_wp2_with fail
 go_at_call 104;refine(HR.out _ ab.out).mono ?_;rintro e w5 ⟨rfl,q⟩;have bh:w4.heap.size<=w5.heap.size:=q.size;have aM:f.heap.size<w5.heap.size:=by omega
 have aN:w.heap.size+1<w5.heap.size:=by omega
 obtain⟨bi,bj⟩:=QT q (b:=w.heap.size) (by omega);obtain⟨aO,bk⟩:=QT q (b:=w.heap.size+1) (by omega);obtain⟨bl,bm⟩:=QT q (b:=f.heap.size) (by omega);have aj:Hid (Below w.heap.size w w5):=ab.out.trans (q.mono ab.out.size);have o:Hid (gD w5 (w.heap.size+1+1) f.heap.size P n Q t a):=A.out.later q;have i:Hid (ik w5 (f.heap.size+1) z.heap.size H j I r u):=B.out.later q;have T:Hid (gD w5 z.heap.size R.heap.size L l M F K):=D.out.later q;clear q A B D HR ab;go_wp2_with fail
 go_at_call 102;refine(aq.out _ _ _ P Q (by omega) aj.out o.out).mono ?_;rintro e w6 ⟨rfl,O⟩;have bn:w5.heap.size<=w6.heap.size:=O.jx.size;have aP:f.heap.size<w6.heap.size:=by omega
 obtain⟨bo,bp⟩:=QT O.jx (b:=w.heap.size) (by omega);have bq:=Pp O (b:=f.heap.size) (PC _);have al:Hid (Below w.heap.size w w6):=aj.out.trans (O.jx.mono (by omega));have B:Hid (ik w6 (f.heap.size+1) z.heap.size H j I r u):=i.out.still O (.inr (by omega));have D:Hid (gD w6 z.heap.size R.heap.size L l M F K):=T.out.still O (.inr (by omega));clear O o i T aq aj;go_wp2_with fail
 go_at_call 102;refine(ar.out _ _ _ L M (by omega) al.out D.out).mono ?_;rintro e w7 ⟨rfl,U⟩;have br:w6.heap.size<=w7.heap.size:=U.jx.size;obtain⟨bt,bu⟩:=QT U.jx (b:=w.heap.size) (by omega);obtain⟨bv,bw⟩:=QT U.jx (b:=f.heap.size) (by omega);have am:Hid (Below w.heap.size w w7):=al.out.trans (U.jx.mono (by omega));have i:Hid (ik w7 (f.heap.size+1) z.heap.size H j I r u):=B.out.still U (.inl (by omega));clear U B D ar al;go_wp2_with fail
 go_at_call 105;refine(au.out _ _ _ H I (by omega) am.out i.out).mono ?_;rintro e w8 ⟨rfl,ay⟩;have aA:Hid (Below w.heap.size w w8):=am.out.trans (ay.jx.mono (by omega));clear ay i au am;go_wp2;go_ret;exact⟨rfl,aA.out⟩
theorem DQ (w:World)(k:Int)(v:Value)(h:Bc w k v):Calls prog 66 #[v] w fun e w'=>e= .returned (.bool true)/\Below w.heap.size w w':=by
 obtain⟨b,g,a,n,c,r,d,i,j,f,l,A,B,C,D,E,F,H,I,m,o,p,q,s,x,y,rfl,t,u,J,K,L,M,z,N,O⟩:=h;by_cases P:k=3
 .subst P;exact zX b g _ d i j f l _ _ m o p q s x y w M
 by_cases Q:k=1
 .subst Q;exact DR b g a n c r d i j f l _ _ m o p q s x y w t u z
 exact Cd k b g a n c r d i j f l A B C D E F H I m o p q s x y w (by simp_all) (by simp_all) t u J K L z N O
theorem Io (w:World)(cs:List Value)(t:TypeId):(w.alloc (.cells cs.toArray t)).rangeAt w.heap.size 0 cs:=by
 intro j v a;rw[eB];refine(cn (du w (.cells cs.toArray t)) j).trans ?_;rw[eQ];exact a
theorem Dz (p:Value)(w:World)(k:Int)(v:Value)(h:Bc w k v)(E:1<=k)(F:k<=3):Calls prog 40 #[p,v] w fun e w'=>e= .returned (.bool true)/\Below w.heap.size w w':=by
 have H:Hid (∀x,Calls prog 66 #[v] (w.alloc x) fun e w'=>e= .returned (.bool true)/\Below (w.alloc x).heap.size (w.alloc x) w'):=fun x=>DQ _ k v (h.later cU)
 obtain⟨b,i,a,n,c,M,d,j,l,f,m,o,q,r,t,u,z,N,O,A,B,C,D,s,x,y,rfl,P,Q,R,S,T,U,V,W,X⟩:=h;have I:=cb (Io w [.int .i64 k,.int .i64 b,.int .i64 i,.slice a n c,.string d,.string j,.bool l,.int .i64 f,.int .i64 m,.slice o r t,.slice q u z,.string A,.int .i64 B,.int .i64 C,.int .i64 D,.string s,.int .i64 x,.int .i64 y] 95);have J:Hid ((prog.info? 95).map (·.size)=some 18):=(show(prog.info? 95).map (·.size)=some 18 by kernel_rfl)
 unfold Se at*;go_enter qH,pM;go_wp2_with (refine wpList_load_mid rfl 95 _ rfl w.heap.size 0 rfl [.int .i64 k,.int .i64 b,.int .i64 i,.slice a n c,.string d,.string j,.bool l,.int .i64 f,.int .i64 m,.slice o r t,.slice q u z,.string A,.int .i64 B,.int .i64 C,.int .i64 D,.string s,.int .i64 x,.int .i64 y] _ I.out jw rfl J.out ?_)
 refine(H.out _).mono ?_;rintro e K ⟨rfl,g⟩;have L:Hid (Below w.heap.size w K):=(cU).trans (g.mono (by simp));go_wp2;go_ret;exact⟨rfl,L.out⟩
theorem JY (b:Nat)(wr:World)(hb:b<wr.heap.size)(c:wr.cell? ⟨b,0,none⟩=some (.string ⟨#[97]⟩)):Bc wr 1 (.agg #[.int .i64 1,.int .i64 0,.int .i64 2,.slice (some ⟨b,0,none⟩) 1 1,.string ⟨#[120,121]⟩,.string ⟨#[]⟩,.bool false,.int .i64 0,.int .i64 0,.slice none 0 0,.slice none 0 0,.string ⟨#[]⟩,.int .i64 0,.int .i64 0,.int .i64 0,.string ⟨#[]⟩,.int .i64 1,.int .i64 0]):=by
 refine⟨0,2,some ⟨b,0,none⟩,1,1,[⟨#[97]⟩],⟨#[120,121]⟩,⟨#[]⟩,false,0,0,none,none,0,0,0,0,[],[],⟨#[]⟩,0,0,0,⟨#[]⟩,1,0,rfl,⟨rfl,PC _,by simp,?_,.inl ⟨_,_,rfl,hb,?_⟩⟩,by decide,⟨rfl,PC _,by simp,.inr ⟨rfl,rfl⟩⟩,⟨rfl,PC _,by simp,by simp,.inr ⟨rfl,rfl⟩⟩,by decide,by decide,by decide,by decide,by decide⟩
 .intro s a;simp at a;subst a;decide
 .intro i s a;have d:i=0:=by grind
  subst d;simp at a;subst a;exact c
end Go.Proofs.YtlonjggfnleolaaGreatDoor
