import Derived.Test.YtlonjggfnleolaaGreatDoorRefAsk0
namespace Go.Proofs.YtlonjggfnleolaaGreatDoor
open Go.RowKit Go.Proofs.Tryz
set_option linter.unusedVariables false
set_option maxHeartbeats 2000000
set_option maxRecDepth 20000
variable {w u:World}{x s:ByteArray}{g:List ByteArray}{j:Nat}
set_option linter.unusedSimpArgs false
set_option maxHeartbeats 2000000
set_option maxRecDepth 20000
theorem oj {v:Array Value}{t:Nat}(h:Below (w.alloc (.cells v t)).heap.size (w.alloc (.cells v t)) u)(i:Nat):u.cell? ⟨w.heap.size,i,none⟩=v[i]?:=
 (h.cell (p:=⟨w.heap.size,i,none⟩) (by simp)).trans (cn (du w _) i)
theorem yI {x:Obj}(h:Below (w.alloc x).heap.size (w.alloc x) u){b:Nat}(o:Nat)(hb:b<w.heap.size):u.cell? ⟨b,o,none⟩=w.cell? ⟨b,o,none⟩:=
 (h.cell (p:=⟨b,o,none⟩) (by simp;omega)).trans (((ct w.heap.size w).alloc (PC _) x).cell (p:=⟨b,o,none⟩) hb)
def Ff (N:ByteArray)(g:List ByteArray):ByteArray:=g.foldl (fun s x=>s++⟨#[32]⟩++x) N
theorem KQ (N:ByteArray)(g:List ByteArray)(h:∀s∈g,s.size<=8):(Ff N g).size<=N.size+9*g.length:=by
 induction g generalizing N with
 |nil=>simp[Ff]
 |cons a t b=>
  have c:=b (N++⟨#[32]⟩++a) (fun s d=>h s (cJ _ d));have f:=h a (jS ..);have e:(ByteArray.mk #[32]).size=1:=rfl;rw[cR,cR]at c;show(Ff (N++⟨#[32]⟩++a) t).size<=_;rw[dc];omega
theorem KR (N:ByteArray)(h:g[j]?=some x):Ff N (g.take (j+1))=Ff N (g.take j)++⟨#[32]⟩++x:=by
 rw[eV,h];simp[Ff,List.foldl_append]
theorem tr {t:ByteArray}(h:s=t):Ending.returned (.tuple #[.string s,.int .i64 0])= .returned (.tuple #[.string t,.int .i64 0]):=by rw[h]
theorem qm {a b:ByteArray}(h:a.data.toList=b.data.toList):a=b:=by
 cases a;cases b;simp at h;simp[h]
theorem Dx (N:ByteArray)(e:1<=g.length)(f:g.length<=4):Ff N g=N++⟨#[32]⟩++pg g:=by
 apply qm;match g,e,f with
 | [a],_,_=>simp[Ff,pg,Lib.join]
 | [a,b],_,_=>simp[Ff,pg,Lib.join]
 | [a,b,c],_,_=>simp[Ff,pg,Lib.join]
 | [a,b,c,d],_,_=>simp[Ff,pg,Lib.join]
def Le (N:ByteArray)(g:List ByteArray):ByteArray:=g.foldl (fun s x=>s++nm x) (nm N)
theorem oQ (h:s.size<=40):(nm s).size<=45:=by
 have:=kZ h;have e:(ByteArray.mk #[36]).size=1:=rfl;unfold nm;rw[cR];omega
theorem Eu (a:ByteArray)(g:List ByteArray)(h:∀s∈g,s.size<=40):(g.foldl (fun s x=>s++nm x) a).size<=a.size+45*g.length:=by
 induction g generalizing a with
 |nil=>simp
 |cons x t b=>
  have c:=b (a++nm x) (fun s d=>h s (cJ _ d));have e:=oQ (h x (jS ..));rw[cR]at c;rw[nt,dc];omega
theorem RS (N:ByteArray)(g:List ByteArray)(a:N.size<=40)(h:∀s∈g,s.size<=40):(Le N g).size<=45+45*g.length:=by
 have b:=Eu (nm N) g h;have c:=oQ a;unfold Le;omega
theorem RT (N:ByteArray)(h:g[j]?=some x):Le N (g.take (j+1))=Le N (g.take j)++nm x:=by
 rw[eV,h];simp[Le,List.foldl_append]
theorem Et (a:ByteArray)(g:List ByteArray):(g.foldl (fun s x=>s++nm x) a).data.toList=a.data.toList++g.flatMap oG:=by
 induction g generalizing a with
 |nil=>simp
 |cons x t b=>rw[nt,b];simp[oG,nm]
theorem DM (N:ByteArray)(g:List ByteArray):(Le N g).data.toList=(nm N).data.toList++g.flatMap oG:=Et _ _
theorem Mt (k:Int)(N:ByteArray)(A:k=1/\N=⟨#[103,101,116]⟩\/k=2/\N=⟨#[115,101,116]⟩\/k=3/\N=⟨#[100,101,108]⟩)(b o c:Nat)(g:List ByteArray)(f r:ByteArray)(p:Bool)(l id:Int)(w:World)(K:dH w (some ⟨b,o,none⟩) g.length c g)(M:f.size<=maxLen)(m:fp k g f=true)(hb:b<w.heap.size)(O:g.length<=c)(P:∀(i:Nat) (s:ByteArray),g[i]?=some s->w.cell? ⟨b,o+i,none⟩=some (.string s)):Calls prog 101 #[.int .i64 1,db k (.slice (some ⟨b,o,none⟩) g.length c) f r p l,.int .i64 id] w fun e w'=>e= .returned (.tuple #[.string (uy 1 k g f id),.int .i64 0])/\Below w.heap.size w w':=by
 have R:=nj m;have y:∀x,Below w.heap.size w (w.alloc x):=fun x=>cU
 have n:=cb y;clear y;have Q:Hid (∀x,Calls prog 139 #[db k (.slice (some ⟨b,o,none⟩) g.length c) f r p l] (w.alloc x) fun e w'=>e= .returned (.bool true)/\Below (w.alloc x).heap.size (w.alloc x) w'):=fun x=>by have:=iz k (.slice (some ⟨b,o,none⟩) g.length c) g f r p l _ (K.later (n.out x)).strs M;rwa [m]at this
 have S:Hid (∀W,Calls prog 140 #[.int .i64 1,db k (.slice (some ⟨b,o,none⟩) g.length c) f r p l,.int .i64 id] W fun e w'=>e= .returned (.bool true)/\Below W.heap.size W w'):=fun W=>by have:=kt 1 k (some ⟨b,o,none⟩) g.length c f r p l id W;rwa [show jY 1 k g.length id=true by rcases R.kind with rfl|rfl|rfl<;>rfl]at this
 have T:=R.xi;have aa:=R.xn;have ab:=R.yu;have U:=cb R.keys;have z:=cb P;clear K M m P;have hz:b≠w.heap.size:=by omega
 have HZ:Hid (∀j,(Ff N (g.take j)).size<=39):=fun j=>by
  have h1:=KQ N (g.take j) (fun x t=>U.out x (fH t));have h2:(g.take j).length<=g.length:=PY _ _;have e:N.size=3:=by rcases A with⟨_,rfl⟩|⟨_,rfl⟩|⟨_,rfl⟩<;>rfl
  omega
 have HE:Hid (k≠2->Ff N g++⟨#[10]⟩=uy 1 k g f id):=fun h=>by
  show _=lE k g f;unfold lE;rw[Dx _ R.xn R.yu,cD h];rcases A with⟨rfl,rfl⟩|⟨rfl,rfl⟩|⟨rfl,rfl⟩<;>rfl
 have C:Hid (k=2->Ff N g++⟨#[32]⟩++gh f.size++⟨#[10]⟩++f++⟨#[10]⟩=uy 1 k g f id):=fun h=>by
  show _=lE k g f;unfold lE;rw[Dx _ R.xn R.yu,cN h];rcases A with⟨rfl,rfl⟩|⟨rfl,rfl⟩|⟨rfl,rfl⟩
  .cases h
  .show _=⟨#[115,101,116]⟩++_++_++_++sizedB f;simp only[sizedB,ByteArray.append_assoc]
  .cases h
 clear R;have dz:=fT f.size;have HQ:Hid (∀W:World,Calls prog 142 #[.int .i64 f.size] W fun e w'=>e= .returned (.string (gh f.size))/\∃q,w'=W.drewN q):=fun W=>mu f.size W (by omega)
 generalize V:g.length=L at*;have X:=cb V;clear V;unfold db at*;rcases A with⟨rfl,B⟩|⟨rfl,B⟩|⟨rfl,B⟩
 all_goals
  have HN:=cb B
  clear B
  go_enter func101,ntmps101
  go_wp2_with fail
  go_at_call 139
  refine(Q.out _).mono ?_
  rintro e w1 ⟨rfl,a⟩
  obtain⟨D,E⟩:=jE a
  have ac:w.heap.size<w1.heap.size:=by have:=a.size;simp at this;omega
  have F:=cb a
  clear a
  go_wp2_with fail
  go_at_call 140
  refine(S.out _).mono ?_
  rintro e u ⟨rfl,d⟩
  have v:=F.out.trans (d.mono F.out.size)
  have HD:Hid (∀(i:Nat) (s:ByteArray),g[i]?=some s->u.cell? ⟨b,o+i,none⟩=some (.string s)):=fun i s h=>(yI v (o+i) hb).trans (z.out i s h)
  obtain⟨k0,k1,k2⟩:=cd (oj v 0) (cd (oj v 1) (oj v 2))
  simp only[eQ,kJ,kI]at k0 k1 k2
  have ad:w.heap.size<u.heap.size:=by have:=d.size;omega
  have Y:=cb ((n.out _).trans (v.mono (by simp)))
  clear d v D E F Q S n z
  have d:b<u.heap.size:=by omega
  go_wp2
  go_loop [11,12] (fun s i=>∃j:Nat,j<=L/\i= .int .i64 j/\s= .string (Ff N (g.take j))) (fun _ i=>L-(intOf i).toNat)
  case atStart=>exact⟨0,cG _,rfl,by rw[HN.out];rfl⟩
  case round=>
   obtain⟨j,hj,rfl,rfl⟩:=hrel;have ae:=HZ.out j;by_cases H:j<L
   .obtain⟨x,t⟩:∃x,g[j]?=some x:=⟨g[j]'(by rw[X.out];exact H),cp _⟩
    have I:=HD.out j x t;have hm:=U.out x (cu t);have HX:=cb (KR N t);clear t;go_wp2;go_round
    case rel=>exact⟨j+1,by omega,by go_num,by rw[HX.out]⟩
    case measure=>simp[intOf];omega
   .have J:j=L:=by omega
    subst J;have eT:=congrArg List.length (show g.take j=g.take j from rfl);have Z:=cb (show g.take j=g by rw[<-X.out];exact gd);go_wp2;first
     |(go_ret2;exact⟨tr (by rw[Z.out,HE.out (by decide)]),Y.out.alloc (by omega) _⟩)
     |(go_quiet ((go_at_call 142;exact Calls.quiet_of (HQ.out _)));go_wp2;go_ret2;exact⟨tr (by rw[Z.out,C.out (by trivial)]),cV (Y.out.alloc (by omega) _) _⟩)
theorem Ri (k:Int)(L:k=1\/k=2\/k=3)(b o c:Nat)(a:ByteArray)(f r:ByteArray)(p:Bool)(l id:Int)(w:World)(B:dH w (some ⟨b,o,none⟩) 1 c [a])(C:f.size<=maxLen)(j:fp k [a] f=true)(d:gI k 1 id=true)(hb:b<w.heap.size)(D:1<=c)(E:w.cell? ⟨b,o,none⟩=some (.string a)):Calls prog 101 #[.int .i64 2,db k (.slice (some ⟨b,o,none⟩) 1 c) f r p l,.int .i64 id] w fun e w'=>e= .returned (.tuple #[.string (uy 2 k [a] f id),.int .i64 0])/\Below w.heap.size w w':=by
 have R:=nj j;have s:∀x,Below w.heap.size w (w.alloc x):=fun x=>cU
 have m:=cb s;clear s;have F:Hid (∀x,Calls prog 139 #[db k (.slice (some ⟨b,o,none⟩) 1 c) f r p l] (w.alloc x) fun e w'=>e= .returned (.bool true)/\Below (w.alloc x).heap.size (w.alloc x) w'):=fun x=>by have:=iz k (.slice (some ⟨b,o,none⟩) 1 c) [a] f r p l _ (B.later (m.out x)).strs C;rwa [j]at this
 have H:Hid (∀W,Calls prog 140 #[.int .i64 2,db k (.slice (some ⟨b,o,none⟩) 1 c) f r p l,.int .i64 id] W fun e w'=>e= .returned (.bool true)/\Below W.heap.size W w'):=fun W=>by have:=AO k (some ⟨b,o,none⟩) 1 c f r p l id W;rwa [d]at this
 have I:=R.xi;have hid:0<=id/\id<=65535:=by
  unfold gI at d;simp at d;omega
 have M:=R.keys a (by simp);obtain⟨J,n⟩:∃v:Value,v= .int .i64 k:=⟨_,rfl⟩
 have N:Hid (∀W:World,Calls prog 141 #[.int .i64 1,J,.int .i64 a.size,.int .i64 f.size,.int .i64 id] W fun e w'=>e= .returned (.string (gO 1 k a.size f.size id))/\Below W.heap.size W w'):=fun W=>n▸vd 1 k a.size f.size id W (by omega) (by omega) (by omega) (by omega) (by omega)
 have O:(gO 1 k a.size f.size id).size=7:=by unfold gO;rw[qC];rfl
 have g1:¬9223372036854775807<7+a.size:=by omega
 have g2:¬9223372036854775807<7+a.size+f.size:=by omega
 have P:Hid (gO 1 k a.size f.size id++a++f=uy 2 k [a] f id):=by show _=_;rfl
 have Q:=cb n;clear R B C j d n;have hz:b≠w.heap.size:=by omega
 unfold db at*;rcases L with rfl|rfl|rfl;all_goals
  go_enter func101,ntmps101
  go_wp2_with fail
  go_at_call 139
  refine(F.out _).mono ?_
  rintro e S ⟨rfl,h⟩
  obtain⟨t,y⟩:=jE h
  have T:w.heap.size<S.heap.size:=by have:=h.size;simp at this;omega
  have z:=cb h
  clear h
  go_wp2_with fail
  go_at_call 140
  refine(H.out _).mono ?_
  rintro e u ⟨rfl,i⟩
  have q:=z.out.trans (i.mono z.out.size)
  have k3:=(yI q o hb).trans E
  obtain⟨K,U,V⟩:=cd (oj q 0) (cd (oj q 1) (oj q 2))
  simp only[eQ,kJ,kI]at K U V
  have X:w.heap.size<u.heap.size:=by have:=i.size;omega
  have Y:=cb ((m.out _).trans (q.mono (by simp)))
  clear i q t y z F H m E
  have i:b<u.heap.size:=by omega
  go_wp2
  rw[<-Q.out]at K
  go_region_held3 (fun w'=>w'.cell? ⟨w.heap.size,0,none⟩=some J/\w'.cell? ⟨w.heap.size,1,none⟩=some (.slice (some ⟨b,o,none⟩) 1 c)/\w'.cell? ⟨w.heap.size,2,none⟩=some (.string f)/\w'.cell? ⟨b,o,none⟩=some (.string a)) (go_keep)
   (first|(go_at_call 141;refine(N.out _).mono ?_;rintro e w5 ⟨rfl,g⟩;have Z:=(g.cell (p:=⟨w.heap.size,0,none⟩) (by simp;omega));have aa:=(g.cell (p:=⟨w.heap.size,1,none⟩) (by simp;omega));have ab:=(g.cell (p:=⟨w.heap.size,2,none⟩) (by simp;omega));have ac:=(g.cell (p:=⟨b,o,none⟩) (by simp;omega));have A:=FT g;clear g))
  all_goals
   go_wp2
   go_ret2
   exact⟨tr P.out,(cV (Y.out.alloc (by omega) _) _).trans (A.out.mono (by simp;omega))⟩
theorem Mu (k:Int)(N:ByteArray)(E:k=1/\N=⟨#[103,101,116]⟩\/k=2/\N=⟨#[115,101,116]⟩\/k=3/\N=⟨#[100,101,108]⟩)(b o c:Nat)(g:List ByteArray)(f r:ByteArray)(p:Bool)(l id:Int)(w:World)(T:dH w (some ⟨b,o,none⟩) g.length c g)(U:f.size<=maxLen)(v:fp k g f=true)(hb:b<w.heap.size)(V:g.length<=c)(X:∀(i:Nat) (s:ByteArray),g[i]?=some s->w.cell? ⟨b,o+i,none⟩=some (.string s)):Calls prog 101 #[.int .i64 3,db k (.slice (some ⟨b,o,none⟩) g.length c) f r p l,.int .i64 id] w fun e w'=>e= .returned (.tuple #[.string (uy 3 k g f id),.int .i64 0])/\Below w.heap.size w w':=by
 have R:=nj v;have A:∀x,Below w.heap.size w (w.alloc x):=fun x=>cU
 have y:=cb A;clear A;have Y:Hid (∀x,Calls prog 139 #[db k (.slice (some ⟨b,o,none⟩) g.length c) f r p l] (w.alloc x) fun e w'=>e= .returned (.bool true)/\Below (w.alloc x).heap.size (w.alloc x) w'):=fun x=>by have:=iz k (.slice (some ⟨b,o,none⟩) g.length c) g f r p l _ (T.later (y.out x)).strs U;rwa [v]at this
 have Z:Hid (∀W,Calls prog 140 #[.int .i64 3,db k (.slice (some ⟨b,o,none⟩) g.length c) f r p l,.int .i64 id] W fun e w'=>e= .returned (.bool true)/\Below W.heap.size W w'):=fun W=>by have:=kt 3 k (some ⟨b,o,none⟩) g.length c f r p l id W;rwa [show jY 3 k g.length id=true by rcases R.kind with rfl|rfl|rfl<;>rfl]at this
 have B:=R.xi;have aa:=R.xn;have ab:=R.yu;have HK:=cb R.keys;have C:=cb X;clear T U v X;have hz:b≠w.heap.size:=by omega
 have HE:Hid (k≠2->⟨#[42]⟩++gh (1+g.length)++⟨#[10]⟩++Le N g=uy 3 k g f id):=fun h=>by
  apply qm;rw[show uy 3 k g f id=⟨(mK (N::g++[])).toArray⟩by rcases E with⟨rfl,rfl⟩|⟨rfl,rfl⟩|⟨rfl,rfl⟩<;>first|rfl|exact absurd rfl h];simp[mK,DM,nm,oG,Nat.add_comm,Nat.add_assoc,Nat.add_left_comm]
 have H:Hid (k=2->⟨#[42]⟩++gh (1+g.length+1)++⟨#[10]⟩++(Le N g++nm f)=uy 3 k g f id):=fun h=>by
  apply qm;rw[show uy 3 k g f id=⟨(mK (N::g++[f])).toArray⟩by rcases E with⟨rfl,rfl⟩|⟨rfl,rfl⟩|⟨rfl,rfl⟩<;>first|rfl|cases h];simp[mK,DM,nm,oG,Nat.add_comm,Nat.add_assoc,Nat.add_left_comm]
 have I:N.size=3:=by rcases E with⟨_,rfl⟩|⟨_,rfl⟩|⟨_,rfl⟩<;>rfl
 have HZ:Hid (∀j,(Le N (g.take j)).size<=225):=fun j=>by
  have h1:=RS N (g.take j) (by omega) (fun x t=>by have:=HK.out x (fH t);omega);have h2:(g.take j).length<=g.length:=PY _ _;omega
 have J:Hid (∀(x:ByteArray) (W:World),x.size<100->Calls prog 143 #[.string x] W fun e w'=>e= .returned (.string (nm x))/\∃q,w'=W.drewN q):=fun x W t=>xc x W t
 have tv:=oQ B;have HQ:Hid (∀(m:Int) (n:Nat) (W:World),m=n->n<100->Calls prog 142 #[.int .i64 m] W fun e w'=>e= .returned (.string (gh n))/\∃q,w'=W.drewN q):=fun m n W e h=>by subst e;exact mu n W h
 clear R I;generalize hL:g.length=L at*;have HL:=cb hL;clear hL;unfold db at*;rcases E with⟨rfl,F⟩|⟨rfl,F⟩|⟨rfl,F⟩
 all_goals
  have HN:=cb F
  clear F
  go_enter func101,ntmps101
  go_wp2_with fail
  go_at_call 139
  refine(Y.out _).mono ?_
  rintro e w1 ⟨rfl,a⟩
  obtain⟨K,M⟩:=jE a
  have ac:w.heap.size<w1.heap.size:=by have:=a.size;simp at this;omega
  have O:=cb a
  clear a
  go_wp2_with fail
  go_at_call 140
  refine(Z.out _).mono ?_
  rintro e u ⟨rfl,d⟩
  have z:=O.out.trans (d.mono O.out.size)
  have HD:Hid (∀(i:Nat) (s:ByteArray),g[i]?=some s->u.cell? ⟨b,o+i,none⟩=some (.string s)):=fun i s h=>(yI z (o+i) hb).trans (C.out i s h)
  obtain⟨k0,k1,k2⟩:=cd (oj z 0) (cd (oj z 1) (oj z 2))
  simp only[eQ,kJ,kI]at k0 k1 k2
  have ad:w.heap.size<u.heap.size:=by have:=d.size;omega
  have H2:=cb ((y.out _).trans (z.mono (by simp)))
  clear d z K M O Y Z y C
  have d:b<u.heap.size:=by omega
  have ae:¬100<=3:=by omega
  go_wp2_with fail
  go_at_call 143
  refine(J.out _ _ (by decide)).mono ?_
  rintro e w3 ⟨rfl,q3,rfl⟩
  go_wp2_with fail
  go_loopw [14,15] (fun s i wr=>∃j q:Nat,j<=L/\i= .int .i64 j/\s= .string (Le N (g.take j))/\wr=(u.alloc (.cells #[.string ⟨#[]⟩,.string ⟨#[103,101,116]⟩,.string ⟨#[115,101,116]⟩,.string ⟨#[100,101,108]⟩] 9)).drewN q) (fun _ i _=>L-(intOf i).toNat)
  case atStart=>exact⟨0,q3,cG _,rfl,by rw[HN.out];rfl,rfl⟩
  case round=>
   obtain⟨j,q,hj,rfl,rfl,rfl⟩:=hrel;have af:=HZ.out j;by_cases P:j<L
   .obtain⟨x,t⟩:∃x,g[j]?=some x:=⟨g[j]'(by rw[HL.out];exact P),cp _⟩
    have Q:=HD.out j x t;have hm:=HK.out x (cu t);have tx:=oQ (s:=x) (by omega);have HX:=cb (RT N t);clear t;go_wp2_with fail
    go_at_call 143;refine(J.out x _ (by omega)).mono ?_;rintro e w4 ⟨rfl,q4,rfl⟩;go_wp2;go_round
    case rel=>exact⟨j+1,_,by omega,by go_num,by rw[HX.out],rfl⟩
    case measure=>simp[intOf];omega
   .have S:j=L:=by omega
    subst S;have D:=cb (show g.take j=g by rw[<-HL.out];exact gd);have dz:=fT (1+j);have dy:=fT (1+j+1);go_wp2_with fail
    first
     |(go_at_call 142;refine(HQ.out _ (1+j) _ (by omega) (by omega)).mono ?_;rintro e w6 ⟨rfl,q6,rfl⟩;go_wp2;go_ret2;exact⟨tr (by rw[D.out,<-HE.out (by decide)]),cV (H2.out.alloc (by omega) _) _⟩)
     |(go_at_call 143;refine(J.out f _ (by omega)).mono ?_;rintro e w5 ⟨rfl,q5,rfl⟩;go_wp2_with fail;go_at_call 142;refine(HQ.out _ (1+j+1) _ (by omega) (by omega)).mono ?_;rintro e w6 ⟨rfl,q6,rfl⟩;go_wp2;go_ret2;exact⟨tr (by rw[D.out,<-H.out (by trivial)]),cV (H2.out.alloc (by omega) _) _⟩)
section
variable (d k:Int)(a:Option Addr)(n c:Nat)(g:List ByteArray)(f r:ByteArray)(p:Bool)(l id:Int)(w:World)
theorem QX (t:dH w a n c g)(v:f.size<=maxLen)(hb:(fp k g f&&jY d k n id)=false):Calls prog 101 #[.int .i64 d,db k (.slice a n c) f r p l,.int .i64 id] w fun e w'=>e= .returned (.tuple #[.string ⟨#[]⟩,.int .i64 1])/\Below w.heap.size w w':=by
 have j:∀x,Below w.heap.size w (w.alloc x):=fun x=>cU
 have i:=cb j;clear j;have y:Hid (∀x,Calls prog 139 #[db k (.slice a n c) f r p l] (w.alloc x) fun e w'=>e= .returned (.bool (fp k g f))/\Below (w.alloc x).heap.size (w.alloc x) w'):=fun x=>iz k (.slice a n c) g f r p l _ (t.later (i.out x)).strs v
 have z:Hid (∀W,Calls prog 140 #[.int .i64 d,db k (.slice a n c) f r p l,.int .i64 id] W fun e w'=>e= .returned (.bool (jY d k n id))/\Below W.heap.size W w'):=fun W=>kt d k a n c f r p l id W
 generalize fp k g f=B at*;generalize jY d k n id=S at*;clear t v;unfold db at*;have A:B=true->S=false:=by intro h;subst h;simpa using hb
 clear hb;obtain rfl|⟨rfl,rfl⟩:B=false\/B=true/\S=false:=by
  cases B
  .exact .inl rfl
  .exact .inr ⟨rfl,A rfl⟩
 all_goals
  clear A
  go_enter func101,ntmps101
  go_wp2_with fail
  go_at_call 139
  refine(y.out _).mono ?_
  rintro e D ⟨rfl,b⟩
  obtain⟨o,q⟩:=jE b
  have E:w.heap.size<D.heap.size:=by have:=b.size;simp at this;omega
  have s:=cb b
  clear b
  go_wp2_with fail
  go_at_call 140
  refine(z.out _).mono ?_
  rintro e u ⟨rfl,m⟩
  have C:=s.out.trans (m.mono s.out.size)
  have F:=cb ((i.out _).trans (C.mono (by simp)))
  clear m C o q s y z i
  go_wp2
  go_ret2
  exact⟨rfl,F.out⟩
theorem QW (q:dH w a n c g)(y:f.size<=maxLen):Calls prog 101 #[.int .i64 d,db k (.slice a n c) f r p l,.int .i64 id] w fun e w'=>e= .returned (Du (fp k g f&&jY d k n id) (uy d k g f id))/\Below w.heap.size w w':=by
 rcases u:fp k g f&&jY d k n id with _|_
 .exact QX d k a n c g f r p l id w q y u
 .rw[cO]at u;obtain⟨t,m⟩:=u;have R:=nj t;obtain⟨b,o,rfl,z,j⟩:∃b o,a=some ⟨b,o,none⟩/\b<w.heap.size/\∀(i:Nat) (s:ByteArray),g[i]?=some s->w.cell? ⟨b,o+i,none⟩=some (.string s):=by
   rcases q.form with h|⟨h,_⟩
   .exact h
   .rw[h]at R;exact absurd R.xn (by simp)
  have D:=q.len;subst D;have E:d=1\/d=2\/d=3:=by
   unfold jY uf at m;simp at m;omega
  obtain⟨N,B⟩:∃N:ByteArray,k=1/\N=⟨#[103,101,116]⟩\/k=2/\N=⟨#[115,101,116]⟩\/k=3/\N=⟨#[100,101,108]⟩:=by
   rcases R.kind with h|h|h
   .exact⟨_,.inl ⟨h,rfl⟩⟩
   .exact⟨_,.inr (.inl ⟨h,rfl⟩)⟩
   .exact⟨_,.inr (.inr ⟨h,rfl⟩)⟩
  rcases E with rfl|rfl|rfl
  .exact Mt k N B b o c g f r p l id w q y t z q.cap j
  .have v:gI k g.length id=true:=by
    have F:jY 2 k g.length id=gI k g.length id:=by unfold jY;rcases gI k g.length id<;>rfl
    rw[<-F];exact m
   have A:g.length=1:=by
    by_cases C:k=1
    .unfold gI at v;simp[C]at v;omega
    .exact R.one C
   match g,A,R with
   | [x],_,R=>
    exact Ri k R.kind b o c x f r p l id w q y t v z q.cap (j 0 x rfl)
  .exact Mu k N B b o c g f r p l id w q y t z q.cap j
end
end Go.Proofs.YtlonjggfnleolaaGreatDoor
