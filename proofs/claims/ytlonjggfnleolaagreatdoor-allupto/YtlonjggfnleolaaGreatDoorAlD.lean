import Derived.Test.YtlonjggfnleolaaGreatDoorSayA
import Derived.Deep.MidRow
set_option linter.unusedVariables false
set_option maxHeartbeats 8000000
set_option maxRecDepth 20000
namespace Go.Proofs.YtlonjggfnleolaaGreatDoor
open Go.RowKit Go.Shelf Go.Proofs.Tryz
variable {P:Program}{b:Array Oper}{Q:Exit->Act->World->Prop}{d:Region.Mode}{S:World->Prop}{fuel:Nat}{listed:Array Bool}{a:Act}{w:World}
theorem Au {a:Type}{x:a}{l:List a}:(x::l).toArray[0]?=some x:=rfl
theorem fM {b:Type}{a x:b}{l:List b}{n:Nat}(h:l.toArray[n]?=some x):(a::l).toArray[n+1]?=some x:=by
 rw[eQ]at h⊢;exact h
theorem tk {e:Oper}{v:Value}{a f:Act}(i:Nat)(h:wpAnyH P d b Q S fuel (listed.setIfInBounds i true) f w)(g:b[i]?=some e:=by repeat(first|exact Au|apply fM))(j:Region.noSelect b=true:=by kernel_rfl)(k:Region.free d b listed i=true:=by kernel_rfl)(l:(Region.ready d b listed).contains i=true:=by kernel_rfl)(m:Region.wanted e (yielded b a.tmps)=true:=by rfl)(n:∀w,S w->(execOp a.eval e).run P w= .ok (.value v) w:=by intro _ h;(try dsimp only at h);(try obtain⟨_,_,_,_⟩:=(show _/\_ from h));go_simp;try with_reducible rfl)(o:a.put e.dst v=f:=by(try simp only[Act.put,cT,dk,dr]);rfl)(p:∀c a w,Q (.panic c) (a.put e.dst v) w->Q (.panic c) a w:=by exact fun _ _ _ h=>h)(q:S w:=by assumption):wpAnyH P d b Q S (fuel+1) listed a w:=by
 subst o;exact wpAnyH_take g j k l p (oa ⟨m,n⟩) q h
theorem rd {o:Oper}(i:Nat)
 (h:∀c:Act->World->Prop,Shut (∀a w,S w->(S w->wpAnyH P d b Q S fuel (listed.setIfInBounds i true) a w)->c a w)->if Region.wanted o (yielded b a.tmps)=true then Oper.wp P o a w c Q else c (a.put o.dst undef) w)
 (e:b[i]?=some o:=by repeat(first|exact Au|apply fM)) (f:Region.ready d b listed=[i]:=by kernel_rfl):wpAnyH P d b Q S (fuel+1) listed a w:=
 wpAnyH_ready f (by simp) (AllReadyH.cons e h AllReadyH.nil)
theorem AZ (k:Int)(ah:5<=k)(ai:k<=7)(b p:Int)(q:Value)(d r:ByteArray)(t:Bool)(f u:Int)(z A:Value)(C:ByteArray)(D E g2:Int)(s:ByteArray)(x y:Int)(w:World)(B g i Q:Nat)(R:Value)(cB:w.cell? ⟨B,0,none⟩=some (.slice (some ⟨g,0,none⟩) i Q))(U:0<i)(ae:i<=Q)(aj:i<=1000000000000)(L:w.cell? ⟨g,nN b i,none⟩=some R)(l:World->Prop)(n:Calls prog 68 #[.pointer (some ⟨B,0,none⟩),R,Value.agg #[.int .i64 k,.int .i64 b,.int .i64 p,q,.string d,.string r,.bool t,.int .i64 f,.int .i64 u,z,A,.string C,.int .i64 D,.int .i64 E,.int .i64 g2,.string s,.int .i64 x,.int .i64 y]] (w.alloc (.cells #[.int .i64 k,.int .i64 b,.int .i64 p,q,.string d,.string r,.bool t,.int .i64 f,.int .i64 u,z,A,.string C,.int .i64 D,.int .i64 E,.int .i64 g2,.string s,.int .i64 x,.int .i64 y] 95)).drew fun e w'=>e= .returned (.bool true)/\l w')(o:∀w',l w'->w'.cell? ⟨B,0,none⟩=some (.slice (some ⟨g,0,none⟩) i Q)/\w'.cell? ⟨g,nN b i,none⟩=some R/\w'.heap[w.heap.size]?=some (.cells #[.int .i64 k,.int .i64 b,.int .i64 p,q,.string d,.string r,.bool t,.int .i64 f,.int .i64 u,z,A,.string C,.int .i64 D,.int .i64 E,.int .i64 g2,.string s,.int .i64 x,.int .i64 y] 95 (0,0))):Calls prog 40 #[.pointer (some ⟨B,0,none⟩),Value.agg #[.int .i64 k,.int .i64 b,.int .i64 p,q,.string d,.string r,.bool t,.int .i64 f,.int .i64 u,z,A,.string C,.int .i64 D,.int .i64 E,.int .i64 g2,.string s,.int .i64 x,.int .i64 y]] w fun e w'=>e= .returned (.bool true)/\l w':=by
 have HR:=cb n;have HP:=cb o;have hj:=td b U;have V:=cb (fun W=>Db b i W);have al:¬k<=3:=by omega
 have af:1<=k:=by omega
 have am:¬k=4:=by omega
 have X:B<w.heap.size:=ey w ⟨B,0,none⟩ cB;have Y:g<w.heap.size:=ey w ⟨g,_,none⟩ L;have an:¬B=w.heap.size:=by omega
 have ao:¬g=w.heap.size:=by omega
 have ag:(0:Int)<(i:Int):=by omega
 generalize M:nN b i=j at*;have ap:=cb M;clear n o M;go_enter qH,pM;go_wp2_with fail
 have aq:(0:Int)<=(j:Int):=by omega
 have ar:(j:Int)<(i:Int):=by omega
 obtain⟨I,F⟩:∃I:List Value,I=[.int .i64 k,.int .i64 b,.int .i64 p,q,.string d,.string r,.bool t,.int .i64 f,.int .i64 u,z,A,.string C,.int .i64 D,.int .i64 E,.int .i64 g2,.string s,.int .i64 x,.int .i64 y]:=⟨_,rfl⟩
 have HI:Hid ((prog.info? 95).map (·.size)=some I.length):=by rw[F];exact(show(prog.info? 95).map (·.size)=some 18 by kernel_rfl)
 have Z:=cb (show Value.agg I.toArray=Value.agg #[.int .i64 k,.int .i64 b,.int .i64 p,q,.string d,.string r,.bool t,.int .i64 f,.int .i64 u,z,A,.string C,.int .i64 D,.int .i64 E,.int .i64 g2,.string s,.int .i64 x,.int .i64 y]by rw[F]);have J:Hid (∀W:World,W.heap[w.heap.size]?=some (.cells #[.int .i64 k,.int .i64 b,.int .i64 p,q,.string d,.string r,.bool t,.int .i64 f,.int .i64 u,z,A,.string C,.int .i64 D,.int .i64 E,.int .i64 g2,.string s,.int .i64 x,.int .i64 y] 95 (0,0))->W.rangeAt w.heap.size 0 I/\W.cell? ⟨w.heap.size,1,none⟩=some (.int .i64 b)):=fun W hW=>⟨by rw[F];intro m v hv;rw[eB];refine(cn hW m).trans ?_;rw[eQ];exact hv,cn hW 1⟩
 have N:=J.out _ (du w _);have O:=(cC w (.cells #[.int .i64 k,.int .i64 b,.int .i64 p,q,.string d,.string r,.bool t,.int .i64 f,.int .i64 u,z,A,.string C,.int .i64 D,.int .i64 E,.int .i64 g2,.string s,.int .i64 x,.int .i64 y] 95) B X)
 have aa:=(cS (a:=⟨B,0,none⟩) O).trans cB;have P:=(cC w (.cells #[.int .i64 k,.int .i64 b,.int .i64 p,q,.string d,.string r,.bool t,.int .i64 f,.int .i64 u,z,A,.string C,.int .i64 D,.int .i64 E,.int .i64 g2,.string s,.int .i64 x,.int .i64 y] 95) g Y)
 have ab:=(cS (a:=⟨g,j,none⟩) P).trans L;clear F O P;generalize w.alloc (.cells #[.int .i64 k,.int .i64 b,.int .i64 p,q,.string d,.string r,.bool t,.int .i64 f,.int .i64 u,z,A,.string C,.int .i64 D,.int .i64 E,.int .i64 g2,.string s,.int .i64 x,.int .i64 y] 95)=w0 at*;refine wp_region_held_drew (S:=fun S=>S.cell? ⟨B,0,none⟩=some (.slice (some ⟨g,0,none⟩) i Q)/\S.cell? ⟨w.heap.size,1,none⟩=some (.int .i64 b)/\S.cell? ⟨g,j,none⟩=some R/\Hid (S.rangeAt w.heap.size 0 I)) (by kernel_rfl) ⟨aa,N.2,ab,N.1⟩ (fun c=>?_);refine tk 0 ?_;refine tk 1 ?_;refine tk 2 ?_;refine tk 3 ?_;refine tk 4 ?_;refine tk 5 ?_;refine tk 6 ?_;refine tk 7 ?_;refine tk 8 ?_
 refine tk 9 ?_;refine tk 10 ?_;refine tk 11 ?_;refine wpAnyH_take (i:=15) (v:=_) (fM (fM (fM (fM (fM (fM (fM (fM (fM (fM (fM (fM (fM (fM (fM Au))))))))))))))) (by kernel_rfl) (by kernel_rfl) (by kernel_rfl) (fun _ _ _ h=>h) (yieldsIf_load_mid (by rfl) 95 _ rfl w.heap.size 0 rfl I _ (fun w' ac=>ac.2.2.2.out) jw rfl HI.out) (by assumption) ?_;try simp only[Act.put,cT,dk,dr]
 refine rd 12 (fun K H=>?_);go_simp;go_at_call 69;refine(V.out _).mono ?_;rintro e w' ⟨rfl,rfl⟩;go_wp2_with fail
 refine H.out _ _ c (fun a=>?_);clear H K c;have c:=a;clear a;try simp only[Act.put,cT,dk,dr]
 refine tk 13 ?_;refine tk 14 ?_;refine rd 16 (fun K H=>?_);go_simp;rw[Z.out];go_at_call 68;refine HR.out.mono ?_;rintro e w1 ⟨rfl,hp⟩;have T:=HP.out w1 hp;have ad:=cb hp;clear hp;go_wp2_with fail
 refine H.out _ _ ⟨T.1,(J.out _ T.2.2).2,T.2.1,(J.out _ T.2.2).1⟩ (fun a=>?_);clear H K c;have c:=a;clear a;try simp only[Act.put,cT,dk,dr]
 refine rd 17 (fun K H=>?_);go_simp;refine H.out _ _ c (fun a=>?_);clear H K c;have c:=a;clear a;try simp only[Act.put,cT,dk,dr]
 refine wpAnyH_done (by kernel_rfl) ?_ _;go_wp2;go_ret;exact⟨rfl,ad.out⟩
namespace Al
variable {W j p:World}{i B s n:Nat}{S:Nat->Prop}{r q d f c a l:Value}{M:List xA}{N:List zo}{m:ByteArray}{G:List (Value×Nat)}
structure jz (W:World)(lo B:Nat)(S:Nat->Prop)(rv jv:Value)(M:List xA)(N:List zo)(nx:Nat)(csv cmv ssv smv:Value):Prop where
 wd:W.heap[B]?=some (.cells #[rv,jv,csv,cmv,ssv,smv,.int .i64 (nx:Int)] 87 (0,0))
 ge:lo<=B
 cs:Row W lo 28 1 csv N.length (N.map (·.v))
 cm:Row W lo 3 1 cmv N.length (N.map fun e=> .int .i64 e.id)
 ss:Row W lo 34 1 ssv M.length (M.map (·.v))
 sm:Row W lo 9 1 smv M.length (M.map fun e=> .string e.m)
 tk:∀e∈M,Row W lo 9 1 e.v e.n (List.replicate e.n (.string e.m))/\∀g,e.v.ownBlock=some g->S g/\smv.ownBlock≠some g
 nk:∀e∈N,Row W lo 36 6 e.v e.n (marks e.n e.id)/\∀g,e.v.ownBlock=some g->S g
 KP:∀g,smv.ownBlock=some g->S g
theorem jz.keep (h:jz W i B S r q M N s d f c a)
 (k:∀(b:Nat) (Z:Array Value) (T:Nat),W.heap[b]?=some (.cells Z T (0,0))->(T=87\/T=28\/T=3\/T=34)->j.heap[b]?=W.heap[b]?)
 (o:∀(b:Nat) (Z:Array Value) (T:Nat),W.heap[b]?=some (.cells Z T (0,0))->(T=9\/T=36)->S b->j.heap[b]?=W.heap[b]?):jz j i B S r q M N s d f c a:=
 ⟨(k B _ 87 h.wd (.inl rfl)).trans h.wd,h.ge,h.cs.other (fun g Z _ l _=>k g Z 28 l (.inr (.inl rfl))),h.cm.other (fun g Z _ l _=>k g Z 3 l (.inr (.inr (.inl rfl)))),h.ss.other (fun g Z _ l _=>k g Z 34 l (.inr (.inr (.inr rfl)))),
  h.sm.other (fun g Z n l _=>o g Z 9 l (.inl rfl) (h.KP g n)),
  fun e m=>⟨(h.tk e m).1.other (fun g Z n l _=>o g Z 9 l (.inl rfl) ((h.tk e m).2 g n).1),(h.tk e m).2⟩,
  fun e m=>⟨(h.nk e m).1.other (fun g Z n l _=>o g Z 36 l (.inr rfl) ((h.nk e m).2 g n)),(h.nk e m).2⟩,h.KP⟩
theorem jz.OD {F:Nat->Prop}(h:jz W i B S r q M N s d f c a)(k:∀g,S g->¬F g):jz W i B (fun g=>g<W.heap.size/\¬F g) r q M N s d f c a:=
 ⟨h.wd,h.ge,h.cs,h.cm,h.ss,h.sm,fun e j=>⟨(h.tk e j).1,fun g b=>⟨⟨((h.tk e j).1.eC b).choose_spec.2.2,k g ((h.tk e j).2 g b).1⟩,((h.tk e j).2 g b).2⟩⟩,
  fun e j=>⟨(h.nk e j).1,fun g b=>⟨((h.nk e j).1.eC b).choose_spec.2.2,k g ((h.nk e j).2 g b)⟩⟩,fun g b=>⟨(h.sm.eC b).choose_spec.2.2,k g (h.KP g b)⟩⟩
theorem jz.more {l:Nat->Prop}(h:jz W i B S r q M N s d f c a)(k:∀g,S g->l g):jz W i B l r q M N s d f c a:=
 ⟨h.wd,h.ge,h.cs,h.cm,h.ss,h.sm,fun e b=>⟨(h.tk e b).1,fun g j=>⟨k g ((h.tk e b).2 g j).1,((h.tk e b).2 g j).2⟩⟩,fun e b=>⟨(h.nk e b).1,fun g j=>k g ((h.nk e b).2 g j)⟩,fun g j=>k g (h.KP g j)⟩
theorem jz.below (h:jz W i B S r q M N s d f c a)(hb:Below W.heap.size W j):jz j i B S r q M N s d f c a:=
 h.keep (fun b Z T e _=>hb.block b (cA e)) (fun b Z T e _ _=>hb.block b (cA e))
theorem jz.grown {T t:Nat}{u:List Value}(h:jz W i B S r q M N s d f c a)(v:Row W i T t l n u)(w:T=9\/T=36)(x:∀g,l.ownBlock=some g->¬S g)(o:W.grownBy j l.ownBlock):jz j i B S r q M N s d f c a:=by
 refine h.keep (fun b Z y k m=>o.block b (cA k) (fun e=>?_)) (fun b Z y k _ z=>o.block b (cA k) (fun e=>x b e.symm z));obtain⟨A,p,_⟩:=v.eC e.symm;rw[k]at p;cases p;rcases w with rfl|rfl<;>rcases m with h|h|h|h<;>cases h
structure vP (W W':World)(lo B:Nat)(S:Nat->Prop)(rv jv:Value)(M:List xA)(N:List zo)(nx:Nat)(csv cmv ssv smv l:Value)(n:Nat)(m:ByteArray)(G:List (Value×Nat)):Prop where
 own:jz W' lo B S rv jv M N nx csv cmv ssv smv
 row:Row W' lo 9 1 l n (List.replicate n (.string m))
 gs:∀e∈G,Row W' lo 9 1 e.1 e.2 (List.replicate e.2 (.string m))/\(e.1.ownBlock=l.ownBlock\/∃g,e.1.ownBlock=some g/\W.heap.size<=g)
 kept:∀(b:Nat) (o:Obj),W.heap[b]?=some o->b≠B->l.ownBlock≠some b->W'.heap[b]?=some o
 below:Below lo W W'
theorem vP.alloc (h:vP W j i B S r q M N s d f c a l n m G)(u:i<=W.heap.size)(A:Obj):vP W (j.alloc A) i B S r q M N s d f c a l n m G:=by
 have k:Below j.heap.size j (j.alloc A):=cU;have y:=h.below.size;exact⟨h.own.below k,h.row.other (fun g Z _ p _=>k.block g (cA p)),fun e t=>⟨(h.gs e t).1.other (fun g Z _ p _=>k.block g (cA p)),(h.gs e t).2⟩,fun b o v w x=>dI (h.kept b o v w x) _,h.below.alloc (by omega) _⟩
theorem vP.grow {x:World}{k:Nat}{v':Value}(h:vP W x i B S r q M N s d f c a l n m G)(I:i<=W.heap.size)(z:∀g,l.ownBlock=some g->¬S g)(F:∀e∈G,e.2<=n+k)(t:Row p i 9 1 v' (n+k) (List.replicate n (.string m)++List.replicate k (Value.string m)))(w:x.grownBy p l.ownBlock)(A:v'.ownBlock=l.ownBlock\/(∃g,v'.ownBlock=some g/\x.heap.size<=g/\x.grownBy p none))(v:∀u j C,Row x i 9 1 u j C->(u.ownBlock=l.ownBlock->j<=n+k/\C=(List.replicate n (Value.string m)++List.replicate k (Value.string m)).take (j*1))->Row p i 9 1 u j C):vP W p i B S r q M N s d f c a l n m (G++[(v',n+k)]):=by
 have L:=h.below.size;have y:∀j,j<=n+k->List.replicate j (Value.string m)=(List.replicate n (Value.string m)++List.replicate k (Value.string m)).take (j*1):=by simp_all
 refine⟨h.own.grown h.row (.inl rfl) z w,v _ _ _ h.row (fun _=>⟨by omega,y n (by omega)⟩),fun e he=>?_,fun b o H D E=>(w.block b (cA (h.kept b o H D E)) (fun e=>E e.symm)).trans (h.kept b o H D E),?_⟩
 .rcases cr.1 he with he|he
  .exact⟨v _ _ _ (h.gs e he).1 (fun _=>⟨F e he,y e.2 (F e he)⟩),(h.gs e he).2⟩
  .rw[gl]at he;subst he;refine⟨?_,?_⟩
   .rw[oz]at t;exact t
   .rcases A with h|⟨g,J,O,_⟩
    .exact .inl h
    .exact .inr ⟨g,J,by omega⟩
 .refine h.below.trans ⟨w.os,w.tape,w.output,w.size,fun b D=>w.block b (by omega) (fun e=>?_)⟩;obtain⟨_,_,K,_⟩:=h.row.eC e.symm;omega
theorem vP.fin {C H:World}{t k V g2 X:Value}{A Y:Obj}(h:vP W p i B S r q M N s d f c a l n m [(V,n+1),(g2,n+2),(X,n+3)])(az:n<=2000000)(aA:i<=W.heap.size)(aa:∀g,l.ownBlock=some g->¬S g/\∃Z,W.heap[g]?=some (.cells Z 9 (0,0)))(al:∀g,a.ownBlock=some g->g<W.heap.size)(am:Row C i 34 1 t (M.length+4) (M.map (·.v)++[l,V,g2,X]))(L:(p.alloc A).grownBy C c.ownBlock)(an:Row H i 9 1 k (M.length+4) ((M.map fun e=>Value.string e.m)++[.string m,.string m,.string m,.string m]))(ab:((C.setCell ⟨B,4,none⟩ t).alloc Y).grownBy H a.ownBlock)(ao:k.ownBlock=a.ownBlock\/(∃g,k.ownBlock=some g/\((C.setCell ⟨B,4,none⟩ t).alloc Y).heap.size<=g/\((C.setCell ⟨B,4,none⟩ t).alloc Y).grownBy H none)):jz (H.setCell ⟨B,5,none⟩ k) i B (fun g=>S g\/l.ownBlock=some g\/W.heap.size<=g) r q (M++[⟨l,n,m,by omega⟩,⟨V,n+1,m,by omega⟩,⟨g2,n+2,m,by omega⟩,⟨X,n+3,m,by omega⟩]) N s d f t k/\Lo W (H.setCell ⟨B,5,none⟩ k) i B S l:=by
 have aw:=h.below.size;have O:Below p.heap.size p (p.alloc A):=cU;have ac:=h.own.ss.other (fun g Z _ u _=>O.block g (cA u));have J:(p.alloc A).heap.size=p.heap.size+1:=cF _ _;have k3:∀(b:Nat) (o:Obj),p.heap[b]?=some o->some b≠c.ownBlock->C.heap[b]?=some o:=fun b o x P=>(L.block b (by rw[J];have:=cA x;omega) P).trans ((O.block b (cA x)).trans x)
 have ad:=k3 B _ h.own.wd (jA h.own.ss h.own.wd (by decide));have Q:=dh (i:=4) ad t;have ax:=L.size;have k4:∀(b:Nat) (o:Obj),p.heap[b]?=some o->b≠B->some b≠c.ownBlock->(C.setCell ⟨B,4,none⟩ t).heap[b]?=some o:=fun b o x P hs=>fV (k3 b o x hs) P
 have ae:Row (C.setCell ⟨B,4,none⟩ t) i 34 1 t (M.length+4) (M.map (·.v)++[l,V,g2,X]):=am.other (fun g Z _ u _=>cz _ _ _ _ (fun e=>by rw[show g=B from e,ad]at u;cases u));have ay:(C.setCell ⟨B,4,none⟩ t).heap.size=C.heap.size:=by simp
 have y:=h.own.sm.other (fun g Z w u _=>(k4 g _ u (fun e=>by rw[e,h.own.wd]at u;cases u) (jA h.own.ss u (by decide))).trans u.symm);have R:Below i p (C.setCell ⟨B,4,none⟩ t):=((O.mono (by omega)).trans (rA ac L (by rw[J];omega))).setCell (p:=⟨B,4,none⟩) h.own.ge _;generalize C.setCell ⟨B,4,none⟩ t=I at*;have U:Below I.heap.size I (I.alloc Y):=cU;have D:(I.alloc Y).heap.size=I.heap.size+1:=cF _ _;have af:=y.other (fun g Z _ u _=>U.block g (cA u))
 have k5:∀(b:Nat) (o:Obj),I.heap[b]?=some o->some b≠a.ownBlock->H.heap[b]?=some o:=fun b o x P=>(ab.block b (by rw[D];have:=cA x;omega) P).trans ((U.block b (cA x)).trans x)
 have ag:=k5 B _ Q (jA y Q (by decide));have ap:=dh (i:=5) ag k;have aq:=(U.mono (by omega)).trans (rA af ab (by rw[D];omega));have k6:∀(b:Nat) (o:Obj),I.heap[b]?=some o->b≠B->some b≠a.ownBlock->(H.setCell ⟨B,5,none⟩ k).heap[b]?=some o:=fun b o x P hs=>fV (k5 b o x hs) P
 have ar:Below i I (H.setCell ⟨B,5,none⟩ k):=aq.setCell (p:=⟨B,5,none⟩) h.own.ge _;have ah:Row (H.setCell ⟨B,5,none⟩ k) i 9 1 k (M.length+4) ((M.map fun e=>Value.string e.m)++[.string m,.string m,.string m,.string m]):=an.other (fun g Z _ u _=>cz _ _ _ _ (fun e=>by rw[show g=B from e,ag]at u;cases u));generalize H.setCell ⟨B,5,none⟩ k=W6 at*;have E:∀(b T:Nat) (Z:Array Value),p.heap[b]?=some (.cells Z T (0,0))->T≠34->T≠87->(T=9->some b≠a.ownBlock)->W6.heap[b]?=p.heap[b]?:=fun b T Z x h1 K h3=>by
  have z:b≠B:=fun e=>by rw[e,h.own.wd]at x;cases x;exact K rfl
  have ai:=k4 b _ x z (jA h.own.ss x h1);refine(k6 b _ ai z ?_).trans x.symm;by_cases hT:T=9
  .exact h3 hT
  .exact jA y ai hT
 have F:∀g,k.ownBlock=some g->a.ownBlock=some g\/I.heap.size+1<=g:=fun g w=>by
  rcases ao with e|⟨g',e1,e2,_⟩
  .left;rw[<-e];exact w
  .right;rw[e1]at w;cases w;rw[D]at e2;exact e2
 have aj:∀(b:Nat) (o:Obj),p.heap[b]?=some o->b<I.heap.size:=fun b o x=>by have:=cA x;have:=R.size;omega
 have newRow:∀(v:Value) (j:Nat),Row p i 9 1 v j (List.replicate j (.string m))->(v.ownBlock=l.ownBlock\/∃g,v.ownBlock=some g/\W.heap.size<=g)->Row W6 i 9 1 v j (List.replicate j (.string m))/\∀g,v.ownBlock=some g->(S g\/l.ownBlock=some g\/W.heap.size<=g)/\k.ownBlock≠some g:=by
  intro v j hv hw;have ak:∀g,v.ownBlock=some g->a.ownBlock≠some g:=fun g w e=>by
   have hS:=h.own.KP g e;rcases hw with h1|⟨g',h1,K⟩
   .exact(aa g (by rw[<-h1];exact w)).1 hS
   .rw[w]at h1;cases h1;have:=al g e;omega
  refine⟨hv.other (fun g Z w u _=>E g 9 Z u (by decide) (by decide) (fun _ e=>ak g w e.symm)),fun g w=>⟨?_,fun e=>?_⟩⟩
  .rcases hw with h1|⟨g',h1,K⟩
   .exact .inr (.inl (by rw[<-h1];exact w))
   .rw[w]at h1;cases h1;exact .inr (.inr K)
  .obtain⟨Z,u,_⟩:=hv.eC w;have:=aj g _ u;rcases F g e with h1|h1
   .exact ak g w h1
   .omega
 refine⟨⟨ap.trans rfl,h.own.ge,h.own.cs.other (fun g Z _ u _=>E g 28 Z u (by decide) (by decide) (fun e=>by cases e)),h.own.cm.other (fun g Z _ u _=>E g 3 Z u (by decide) (by decide) (fun e=>by cases e)),?_,?_,?_,?_,?_⟩,⟨h.below.trans (R.trans ar),?_⟩⟩
 .have:=ae.other (w':=W6) (fun g Z _ u _=>(k6 g _ u (fun e=>by rw[e,Q]at u;cases u) (jA y u (by decide))).trans u.symm);rw[cI,dF];exact this
 .rw[cI,dF];exact ah
 .intro e he;rcases cr.1 he with he|he
  .obtain⟨r1,r2⟩:=h.own.tk e he;refine⟨r1.other (fun g Z w u _=>E g 9 Z u (by decide) (by decide) (fun _ e'=>(r2 g w).2 e'.symm)),fun g w=>⟨.inl (r2 g w).1,fun e'=>?_⟩⟩;obtain⟨Z,u,_⟩:=r1.eC w;have:=aj g _ u;rcases F g e' with h1|h1
   .exact(r2 g w).2 h1
   .omega
  .simp only[cQ,Qd,or_false]at he;rcases he with rfl|rfl|rfl|rfl
   .exact newRow _ _ h.row (.inl rfl)
   .exact newRow _ _ (h.gs (V,n+1) (by simp)).1 (h.gs (V,n+1) (by simp)).2
   .exact newRow _ _ (h.gs (g2,n+2) (by simp)).1 (h.gs (g2,n+2) (by simp)).2
   .exact newRow _ _ (h.gs (X,n+3) (by simp)).1 (h.gs (X,n+3) (by simp)).2
 .intro e he;obtain⟨r1,r2⟩:=h.own.nk e he;exact⟨r1.other (fun g Z _ u _=>E g 36 Z u (by decide) (by decide) (fun e=>by cases e)),fun g w=> .inl (r2 g w)⟩
 .intro g w;rcases F g w with h1|h1
  .exact .inl (h.own.KP g h1)
  .have:=R.size;exact .inr (.inr (by omega))
 .intro b o ho z au h9;have hl:l.ownBlock≠some b:=fun e=>by
   obtain⟨_,Z,u⟩:=aa b e;rw[ho]at u;cases u;exact(h9 _ _ rfl).2 e
  have K:=h.kept b o ho z hl;refine k6 b o (k4 b o K z (fun e=>?_)) z (fun e=>?_)
  .obtain⟨av,hc,_⟩:=h.own.ss.eC e.symm;rw[K]at hc;cases hc;exact au _ _ rfl
  .obtain⟨av,hc,_⟩:=h.own.sm.eC e.symm;rw[K]at hc;cases hc;exact(h9 _ _ rfl).1 (h.own.KP b e.symm)
end Al
namespace Al
variable {W k c i:World}{q B r n:Nat}{S:Nat->Prop}{t s f p d a l b:Value}{M:List xA}{N:List zo}{u:List Value}{m:ByteArray}{G:List (Value×Nat)}{A j:Obj}
structure Ln (W W':World)(lo B:Nat)(S:Nat->Prop)(rv jv:Value)(M:List xA)(N:List zo)(nx:Nat)(csv cmv ssv smv l:Value)(n:Nat)(ys:List Value):Prop where
 own:jz W' lo B S rv jv M N nx csv cmv ssv smv
 row:Row W' lo 9 1 l n ys
 kept:∀(b:Nat) (o:Obj),W.heap[b]?=some o->b≠B->l.ownBlock≠some b->W'.heap[b]?=some o
 below:Below lo W W'
theorem jz.count (h:jz W q B S t s M N r f p d a)(k:Nat):jz (W.setCell ⟨B,6,none⟩ (.int .i64 (k:Int))) q B S t s M N k f p d a:=by
 have i:∀(b:Nat) (Z:Array Value) (T:Nat),W.heap[b]?=some (.cells Z T (0,0))->T≠87->(W.setCell ⟨B,6,none⟩ (.int .i64 (k:Int))).heap[b]?=W.heap[b]?:=fun b Z T c l=>cz _ _ _ _ (fun e=>by rw[show b=B from e,h.wd]at c;cases c;exact l rfl)
 exact⟨(dh (i:=6) h.wd _).trans rfl,h.ge,h.cs.other (fun g Z _ c _=>i g Z 28 c (by decide)),h.cm.other (fun g Z _ c _=>i g Z 3 c (by decide)),h.ss.other (fun g Z _ c _=>i g Z 34 c (by decide)),h.sm.other (fun g Z _ c _=>i g Z 9 c (by decide)),
  fun e j=>⟨(h.tk e j).1.other (fun g Z _ c _=>i g Z 9 c (by decide)),(h.tk e j).2⟩,fun e j=>⟨(h.nk e j).1.other (fun g Z _ c _=>i g Z 36 c (by decide)),(h.nk e j).2⟩,h.KP⟩
theorem Rz (h:jz W q B S t s M N r f p d a)(z:Row W q 9 1 l n u)(C:q<=W.heap.size)(A:Obj):Ln W ((W.setCell ⟨B,6,none⟩ (.int .i64 ((r:Int)+1))).alloc A).drew q B S t s M N (r+1) f p d a l n u:=by
 have y:=h.count (r+1);have e:(((r+1:Nat):Int))=(r:Int)+1:=by omega
 rw[e]at y;have D:(W.setCell ⟨B,6,none⟩ (.int .i64 ((r:Int)+1))).heap.size=W.heap.size:=by simp
 have v:Row (W.setCell ⟨B,6,none⟩ (.int .i64 ((r:Int)+1))) q 9 1 l n u:=z.other (fun g Z _ i _=>cz _ _ _ _ (fun e=>by rw[show g=B from e,h.wd]at i;cases i));have c:∀(b:Nat) (o:Obj),W.heap[b]?=some o->b≠B->(W.setCell ⟨B,6,none⟩ (.int .i64 ((r:Int)+1))).heap[b]?=some o:=fun b o j k=>fV j k
 have w:Below q W (W.setCell ⟨B,6,none⟩ (.int .i64 ((r:Int)+1))):=(ct _ _).setCell (p:=⟨B,6,none⟩) h.ge _;generalize W.setCell ⟨B,6,none⟩ (.int .i64 ((r:Int)+1))=x at*;have m:Below x.heap.size x (x.alloc A).drew:=(cU).drew;exact⟨y.below m,v.other (fun g Z _ i _=>m.block g (cA i)),fun b o j k _=>(m.block b (cA (c b o j k))).trans (c b o j k),w.trans (m.mono (by omega))⟩
theorem Ln.put {g c j:Nat}(h:Ln W k q B S t s M N r f p d a (.slice (some ⟨g,0,none⟩) n c) n u)(i:¬S g)(w:j<n)(v:Value):Ln W (k.setCell ⟨g,j,none⟩ v) q B S t s M N r f p d a (.slice (some ⟨g,0,none⟩) n c) n (u.set j v):=by
 obtain⟨x,C,l,y⟩:=h.row.eC (g:=g) rfl;exact⟨h.own.grown h.row (.inl rfl) (fun D e=>by cases e;exact i) (AQ k g j v),h.row.put w v,fun b o z A m=>fV (h.kept b o z A m) (fun e=>m (by rw[show b=g from e];rfl)),h.below.setCell (p:=⟨g,j,none⟩) l _⟩
theorem Ln.at_ (h:Ln W k q B S t s M N r f p d a l n (List.replicate n (.string m))):vP W k q B S t s M N r f p d a l n m []:=
 ⟨h.own,h.row,(fun e b=>by cases b),h.kept,h.below⟩
theorem JU (h:vP W c q B S t s M N r f p d a l n m G)(b:(c.alloc A).grownBy i d.ownBlock):i.heap[B]?=some (.cells #[t,s,f,p,d,a,.int .i64 (r:Int)] 87 (0,0)):=by
 have e:Below c.heap.size c (c.alloc A):=cU;exact(b.block B (by rw[cF];have:=cA h.own.wd;omega) (jA h.own.ss h.own.wd (by decide))).trans ((e.block B (cA h.own.wd)).trans h.own.wd)
theorem JT (h:vP W c q B S t s M N r f p d a l n m G)(w:q<=W.heap.size)(o:(c.alloc A).grownBy i d.ownBlock):Row ((i.setCell ⟨B,4,none⟩ b).alloc j) q 9 1 a M.length (M.map fun e=>Value.string e.m):=by
 have u:Below c.heap.size c (c.alloc A):=cU;have v:(c.alloc A).heap.size=c.heap.size+1:=cF _ _;exact h.own.sm.other (fun g Z x k _=>(dI (fV ((o.block g (by grind) (jA h.own.ss k (by decide))).trans ((u.block g (cA k)).trans k)) (fun e=>by rw[show g=B from e,h.own.wd]at k;cases k)) _).trans k.symm)
theorem LI {v:World}(h:vP W c q B S t s M N r f p d a l n m G)(o:q<=W.heap.size)(g:(c.alloc A).grownBy i d.ownBlock)(u:((i.setCell ⟨B,4,none⟩ b).alloc j).grownBy v a.ownBlock):v.heap[B]?=some (.cells #[t,s,f,p,b,a,.int .i64 (r:Int)] 87 (0,0)):=by
 have w:=dh (i:=4) (JU h g) b;have k:=JT (j:=j) (b:=b) h o g;have e:((i.setCell ⟨B,4,none⟩ b).alloc j).heap[B]?=some (.cells #[t,s,f,p,b,a,.int .i64 (r:Int)] 87 (0,0)):=dI (w.trans rfl) _;exact(u.block B (cA e) (jA k e (by decide))).trans e
theorem BC (B r n q:Nat)(S:Nat->Prop)(t s f p d a:Value)(M:List xA)(N:List zo)(C:Option Addr)(D:Nat)(xs:List Value)(W:World)(h:jz W q B S t s M N r f p d a)(hl:Row W q 9 1 (.slice C n D) n xs)(ac:∀g,(Value.slice C n D).ownBlock=some g->¬S g)(o:q<=W.heap.size)(hn:n<=1000000)(hM:M.length<=5000000000000)(aF:r<=1000000000000000):Calls prog 150 #[.pointer (some ⟨B,0,none⟩),.slice C n D] W fun e w'=>e= .returned (.tuple #[])/\∃m g1 g2 g3 b O,jz w' q B (fun g=>S g\/(Value.slice C n D).ownBlock=some g\/W.heap.size<=g) t s (M++[⟨.slice C n D,n,m,by omega⟩,⟨g1,n+1,m,by omega⟩,⟨g2,n+2,m,by omega⟩,⟨g3,n+3,m,by omega⟩]) N (r+1) f p b O/\Lo W w' q B S (.slice C n D):=by
 have c6:=cn h.wd 6;have cf:=dN h.wd;simp at c6;have av:=Sl W B ((r:Int)+1);have aw:=ET ((r:Int)+1);have HS:=cb (fun A=>Rz h hl o A);have ae:xs.length=n:=by simpa using hl.1
 have af:=cb ae;have ax:Hid (∀g,(Value.slice C n D).ownBlock=some g->¬S g/\∃Z,W.heap[g]?=some (.cells Z 9 (0,0))):=fun g v=>⟨ac g v,(hl.eC v).imp (fun Z hZ=>hZ.1)⟩
 obtain⟨i9,hi,ag,ah,ai⟩:=wR;have z:=cb (cd hi (cd ag (cd ah ai)));obtain⟨ay,aj,P,Q,R⟩:=Nv;have HJ:=cb (cd aj (cd P (cd Q R)));have ak:∀g,a.ownBlock=some g->g<W.heap.size:=fun g v=>(h.sm.eC v).choose_spec.2.2
 have E:=cb (cd ac ak);clear h hl ac ak ae hi ag ah ai aj P Q R;generalize mkNum ((r:Int)+1)=mn at*;go_enter func150,ntmps150;go_upto_region 1 with fail
 go_cut [4] (fun s4 k=>∃m:ByteArray,s4= .string m/\Hid (Ln W k q B S t s M N (r+1) f p d a (.slice C n D) n xs))
 case first=>
  go_big_region
  all_goals go_wp2_with fail
  all_goals go_meet
  case rel=>exact⟨_,rfl,HS.out _⟩
 case rest=>
  clear c6 cf av aw HS;obtain⟨m,rfl,HT⟩:=hcut;go_wp2_with fail
  go_loopw [5] (fun i wr=>∃j:Nat,i= .int .i64 (j:Int)/\j<=n/\Hid (Ln W wr q B S t s M N (r+1) f p d a (.slice C n D) n (List.replicate j (.string m)++xs.drop j))) (fun i _=>n-(intOf i).toNat)
  case atStart=>exact⟨0,rfl,cG _,by show Ln _ _ _ _ _ _ _ _ _ _ _ _ _ _ _ _ _;simpa using HT.out⟩
  case round=>
   clear HT;obtain⟨j,rfl,hj,HT⟩:=hrel;by_cases al:j<n
   .obtain⟨_,⟨_,h0⟩|⟨g,aG,am,e1,aH,hh,aI,aJ,ht⟩⟩:=HT.out.row
    .omega
    .cases e1;have an:j<am.size:=by omega
     have cj:wr.cell? ⟨g,j,none⟩=some am[j]:=by rw[cn hh j];exact dZ an
     have aK:=dN hh;have HP:=cb (HT.out.put (E.out.1 g rfl) al (.string m));rw[It (.string m) xs af.out al]at HP;clear hh ht;go_wp2;go_roundw;case rel=>exact⟨j+1,by go_num,by omega,HP⟩
     case measure=>simp[intOf];omega
   .have ao:j=n:=by omega
    subst ao;have hT:=HT.out;rw[nY (by rw[af.out];exact PC _),il]at hT;have HA:=cb hT.at_;clear HT hT;go_upto_region 7 with(first
     |(at_builtin;refine fW _ rfl _ _ _ rfl q 9 i9 (.string ⟨#[]⟩) 1 16 eO z.out.1 z.out.2.1 z.out.2.2.1 z.out.2.2.2 rfl (by omega) (.slice C j D) j (List.replicate j (.string m)) rfl (HA.out.alloc o _).row ⟨_,0,none⟩ 1 1 [.string m] rfl rfl (World.news_of_block (fD rfl)) (by simp[Value.oneCell']) (by omega) (by unfold maxLen;omega) (by omega) (by have:=HA.out.below.size;simp;omega) ?_;intro v' aL c v u l;obtain⟨T,U,w⟩:=c.form;subst w;have I:=cb ((HA.out.alloc o _).grow (k:=1) o E.out.1 (by simp) c v u l);clear c v u l)
     |fail)
    clear HA;go_upto_region 8 with(first
     |(at_builtin;refine fW _ rfl _ _ _ rfl q 9 i9 (.string ⟨#[]⟩) 1 16 eO z.out.1 z.out.2.1 z.out.2.2.1 z.out.2.2.2 rfl (by omega) (.slice C j D) j (List.replicate j (.string m)) rfl (I.out.alloc o _).row ⟨_,0,none⟩ 2 2 [.string m,.string m] rfl rfl (World.news_of_block (fD rfl)) (by simp[Value.oneCell']) (by omega) (by unfold maxLen;omega) (by omega) (by have:=I.out.below.size;simp;omega) ?_;intro v' aM c v u l;obtain⟨V,X,w⟩:=c.form;subst w;have J:=cb ((I.out.alloc o _).grow (k:=2) o E.out.1 (by simp) c v u l);clear c v u l)
     |fail)
    clear I;go_upto_region 9 with(first
     |(at_builtin;refine fW _ rfl _ _ _ rfl q 9 i9 (.string ⟨#[]⟩) 1 16 eO z.out.1 z.out.2.1 z.out.2.2.1 z.out.2.2.2 rfl (by omega) (.slice C j D) j (List.replicate j (.string m)) rfl (J.out.alloc o _).row ⟨_,0,none⟩ 3 3 [.string m,.string m,.string m] rfl rfl (World.news_of_block (fD rfl)) (by simp[Value.oneCell']) (by omega) (by unfold maxLen;omega) (by omega) (by have:=J.out.below.size;simp;omega) ?_;intro v' az c v u l;obtain⟨Y,aa,w⟩:=c.form;subst w;have x:=cb ((J.out.alloc o _).grow (k:=3) o E.out.1 (by simp) c v u l);clear c v u l)
     |fail)
    clear J;have c4:=cn x.out.own.wd 4;have c5:=cn x.out.own.wd 5;have cf:=dN x.out.own.wd;simp at c4 c5;have aE:q<=az.heap.size:=by have:=x.out.below.size;omega
    generalize ap:M.length=ml at*;have K:=cb ap;clear ap;go_upto_region 10 with(first
     |(at_builtin;refine fW _ rfl _ _ _ rfl q 34 ay (.slice none 0 0) 1 24 underlying85 HJ.out.1 HJ.out.2.1 HJ.out.2.2.1 HJ.out.2.2.2 rfl (by omega) d ml (M.map (·.v)) rfl (by have hr:=(x.out.alloc o (.cells #[.slice C j D,.slice T (j+1) U,.slice V (j+2) X,.slice Y (j+3) aa] 34)).own.ss;rw[K.out]at hr;exact hr) ⟨_,0,none⟩ 4 4 [.slice C j D,.slice T (j+1) U,.slice V (j+2) X,.slice Y (j+3) aa] rfl rfl (World.news_of_block (fD rfl)) (by simp[Value.oneCell']) (by omega) (by unfold maxLen;omega) (by omega) (by simp;omega) ?_;intro b aq c v u l;obtain⟨ta,tc,w⟩:=c.form;subst w;have L:=cb (cd c v);have ar:=v.size;have y:=JU x.out v;clear c4 c5 cf;have c4:=cn y 4;have c5:=cn y 5;have cf:=dN y;simp at c4 c5;have aA:=cA y;clear c v u l y)
     |fail)
    have aB:q<=aq.heap.size:=by rw[cF]at ar;omega
    have F:=JT x.out o L.out.2 (j:= .cells #[.string m,.string m,.string m,.string m] 9) (b:= .slice ta (ml+4) tc);rw[K.out]at F;have au:=cb F;clear F;go_wp2_with (first
     |(at_builtin;refine fW _ rfl _ _ _ rfl q 9 i9 (.string ⟨#[]⟩) 1 16 eO z.out.1 z.out.2.1 z.out.2.2.1 z.out.2.2.2 rfl (by omega) a ml (M.map fun e=> .string e.m) rfl au.out ⟨aq.heap.size,0,none⟩ 4 4 [.string m,.string m,.string m,.string m] rfl rfl (World.news_of_block (cs:=#[.string m,.string m,.string m,.string m]) (fD (by simp))) (by simp[Value.oneCell']) (by omega) (by unfold maxLen;omega) (by omega) (by simp;omega) ?_;intro O aN c v u l;obtain⟨sa,sc,w⟩:=c.form;subst w;have ad:=cb (cd c (cd v u));have H:=LI x.out o L.out.2 v;clear c4 c5 cf;have c5:=cn H 5;have cf:=dN H;simp at c5;clear c v u l H)
     |fail)
    go_end0;have aC:=L.out.1;have aD:=ad.out.1;have ab:=vP.fin x.out (by omega) o ax.out E.out.2 (by rw[K.out];exact aC) L.out.2 (by rw[K.out];exact aD) ad.out.2.1 ad.out.2.2;exact⟨rfl,m,_,_,_,_,_,ab.1,ab.2⟩
end Al
namespace Al
variable {W c wr:World}{d B y n k q u:Nat}{S F:Nat->Prop}{w t m p r s l:Value}{M M':List xA}{N:List zo}{id:Int}{G:List (Value×Nat)}{cs:List iO}{a:List Value}
structure uO (W W':World)(lo B:Nat)(S:Nat->Prop)(rv jv:Value)(M:List xA)(N:List zo)(nx:Nat)(csv cmv ssv smv l:Value)(n:Nat)(id:Int)(G:List (Value×Nat)):Prop where
 own:jz W' lo B S rv jv M N nx csv cmv ssv smv
 row:Row W' lo 36 6 l n (marks n id)
 gs:∀e∈G,Row W' lo 36 6 e.1 e.2 (marks e.2 id)/\(e.1.ownBlock=l.ownBlock\/∃g,e.1.ownBlock=some g/\W.heap.size<=g)
 kept:∀(b:Nat) (o:Obj),W.heap[b]?=some o->b≠B->l.ownBlock≠some b->W'.heap[b]?=some o
 below:Below lo W W'
theorem uO.alloc {a:World}(h:uO W a d B S w t M N y m p r s l n id G)(j:d<=W.heap.size)(A:Obj):uO W (a.alloc A) d B S w t M N y m p r s l n id G:=by
 have c:Below a.heap.size a (a.alloc A):=cU;have v:=h.below.size;exact⟨h.own.below c,h.row.other (fun g Z _ f _=>c.block g (cA f)),fun e i=>⟨(h.gs e i).1.other (fun g Z _ f _=>c.block g (cA f)),(h.gs e i).2⟩,fun b o k q u=>dI (h.kept b o k q u) _,h.below.alloc (by omega) _⟩
theorem uO.grow {q:World}{v':Value}(h:uO W q d B S w t M N y m p r s l n id G)(I:d<=W.heap.size)(x:∀g,l.ownBlock=some g->¬S g)(F:∀e∈G,e.2<=n+k)(a:Row c d 36 6 v' (n+k) (marks n id++marks k id))(i:q.grownBy c l.ownBlock)(z:v'.ownBlock=l.ownBlock\/(∃g,v'.ownBlock=some g/\q.heap.size<=g/\q.grownBy c none))(f:∀u j A,Row q d 36 6 u j A->(u.ownBlock=l.ownBlock->j<=n+k/\A=(marks n id++marks k id).take (j*6))->Row c d 36 6 u j A):uO W c d B S w t M N y m p r s l n id (G++[(v',n+k)]):=by
 have L:=h.below.size;have v:∀j,j<=n+k->marks j id=(marks n id++marks k id).take (j*6):=by
  intro j J;rw[tP,ES j (n+k) id J]
 refine⟨h.own.grown h.row (.inr rfl) x i,f _ _ _ h.row (fun _=>⟨by omega,v n (by omega)⟩),fun e he=>?_,fun b o H C D=>(i.block b (cA (h.kept b o H C D)) (fun e=>D e.symm)).trans (h.kept b o H C D),?_⟩
 .rcases cr.1 he with he|he
  .exact⟨f _ _ _ (h.gs e he).1 (fun _=>⟨F e he,v e.2 (F e he)⟩),(h.gs e he).2⟩
  .rw[gl]at he;subst he;rw[tP]at a;refine⟨a,?_⟩;rcases z with E|⟨g,E,O,_⟩
   .exact .inl E
   .exact .inr ⟨g,E,by omega⟩
 .refine h.below.trans ⟨i.os,i.tape,i.output,i.size,fun b C=>i.block b (by omega) (fun e=>?_)⟩;obtain⟨_,_,K,_⟩:=h.row.eC e.symm;omega
structure tU (W W':World)(lo:Nat)(F:Nat->Prop):Prop where
 below:Below lo W W'
 kept:∀(b:Nat) (Z:Array Value) (T:Nat) (f:Nat×Nat),W.heap[b]?=some (.cells Z T f)->T≠87->T≠34->T≠9->T≠36->T≠28->T≠3->W'.heap[b]?=some (.cells Z T f)
 other:∀(b:Nat) (o:Obj),W.heap[b]?=some o->(∀Z T f,o≠ .cells Z T f)->W'.heap[b]?=some o
 FP:∀(b:Nat) (Z:Array Value) (f:Nat×Nat),W.heap[b]?=some (.cells Z 9 f)->F b->W'.heap[b]?=some (.cells Z 9 f)
theorem tU.trans {A B C:World}(h:tU A B d F)(k:tU B C d F):tU A C d F:=
 ⟨h.below.trans k.below,fun b Z T f a c e g i j l=>k.kept b Z T f (h.kept b Z T f a c e g i j l) c e g i j l,fun b o a m=>k.other b o (h.other b o a m) m,fun b Z f a hF=>k.FP b Z f (h.FP b Z f a hF) hF⟩
theorem uO.fin {J K:World}{i a X g2 Y:Value}{A A':Obj}(h:uO W c d B S w t M N y m p r s l n id [(X,n+1),(g2,n+2),(Y,n+3)])(aG:n<=2000000)(aH:d<=W.heap.size)(P:∀b,l.ownBlock=some b->∃Z,W.heap[b]?=some (.cells Z 36 (0,0)))(af:∃Z,W.heap[B]?=some (.cells Z 87 (0,0))){F:Nat->Prop}(aa:∀g,S g->¬F g)(ag:∀g,l.ownBlock=some g->¬F g)(au:∀g,F g->g<W.heap.size)(av:Row J d 28 1 i (N.length+4) (N.map (·.v)++[l,X,g2,Y]))(ab:(c.alloc A).grownBy J m.ownBlock)(aw:Row K d 3 1 a (N.length+4) ((N.map fun e=>Value.int .i64 e.id)++[.int .i64 id,.int .i64 id,.int .i64 id,.int .i64 id]))(ah:((J.setCell ⟨B,2,none⟩ i).alloc A').grownBy K p.ownBlock):jz (K.setCell ⟨B,3,none⟩ a) d B (fun g=>g<(K.setCell ⟨B,3,none⟩ a).heap.size/\¬F g) w t M (N++[⟨l,n,id,by omega⟩,⟨X,n+1,id,by omega⟩,⟨g2,n+2,id,by omega⟩,⟨Y,n+3,id,by omega⟩]) y i a r s/\tU W (K.setCell ⟨B,3,none⟩ a) d F:=by
 have aD:=h.below.size;have ac:Below c.heap.size c (c.alloc A):=cU;have ai:=h.own.cs.other (fun g Z _ k _=>ac.block g (cA k));have Q:(c.alloc A).heap.size=c.heap.size+1:=cF _ _;have k3:∀(b:Nat) (o:Obj),c.heap[b]?=some o->some b≠m.ownBlock->J.heap[b]?=some o:=fun b o q hn=>(ab.block b (by rw[Q];have:=cA q;omega) hn).trans ((ac.block b (cA q)).trans q)
 have aj:=k3 B _ h.own.wd (jA h.own.cs h.own.wd (by decide));have ad:=dh (i:=2) aj i;have aE:=ab.size;have k4:∀(b:Nat) (o:Obj),c.heap[b]?=some o->b≠B->some b≠m.ownBlock->(J.setCell ⟨B,2,none⟩ i).heap[b]?=some o:=fun b o q hn hs=>fV (k3 b o q hs) hn
 have ak:Row (J.setCell ⟨B,2,none⟩ i) d 28 1 i (N.length+4) (N.map (·.v)++[l,X,g2,Y]):=av.other (fun g Z _ k _=>cz _ _ _ _ (fun e=>by rw[show g=B from e,aj]at k;cases k));have aF:(J.setCell ⟨B,2,none⟩ i).heap.size=J.heap.size:=by simp
 have z:=h.own.cm.other (fun g Z L k _=>(k4 g _ k (fun e=>by rw[e,h.own.wd]at k;cases k) (jA h.own.cs k (by decide))).trans k.symm);have ax:Below d c (J.setCell ⟨B,2,none⟩ i):=((ac.mono (by omega)).trans (rA ai ab (by rw[Q];omega))).setCell (p:=⟨B,2,none⟩) h.own.ge _;generalize J.setCell ⟨B,2,none⟩ i=R at*;have ae:Below R.heap.size R (R.alloc A'):=cU;have U:(R.alloc A').heap.size=R.heap.size+1:=cF _ _;have al:=z.other (fun g Z _ k _=>ae.block g (cA k))
 have k5:∀(b:Nat) (o:Obj),R.heap[b]?=some o->some b≠p.ownBlock->K.heap[b]?=some o:=fun b o q hn=>(ah.block b (by rw[U];have:=cA q;omega) hn).trans ((ae.block b (cA q)).trans q)
 have am:=k5 B _ ad (jA z ad (by decide));have ay:=dh (i:=3) am a;have az:=(ae.mono (by omega)).trans (rA al ah (by rw[U];omega));have k6:∀(b:Nat) (o:Obj),R.heap[b]?=some o->b≠B->some b≠p.ownBlock->(K.setCell ⟨B,3,none⟩ a).heap[b]?=some o:=fun b o q hn hs=>fV (k5 b o q hs) hn
 have aA:Below d R (K.setCell ⟨B,3,none⟩ a):=az.setCell (p:=⟨B,3,none⟩) h.own.ge _;have an:Row (K.setCell ⟨B,3,none⟩ a) d 3 1 a (N.length+4) ((N.map fun e=>Value.int .i64 e.id)++[.int .i64 id,.int .i64 id,.int .i64 id,.int .i64 id]):=aw.other (fun g Z _ k _=>cz _ _ _ _ (fun e=>by rw[show g=B from e,am]at k;cases k));generalize K.setCell ⟨B,3,none⟩ a=W6 at*;have O:∀(b T:Nat) (Z:Array Value),c.heap[b]?=some (.cells Z T (0,0))->T≠28->T≠87->T≠3->W6.heap[b]?=c.heap[b]?:=fun b T Z q h1 h2 h3=>by
  have u:b≠B:=fun e=>by rw[e,h.own.wd]at q;cases q;exact h2 rfl
  have D:=k4 b _ q u (jA h.own.cs q h1);exact(k6 b _ D u (jA z D h3)).trans q.symm
 have E:∀v:Value,(v.ownBlock=l.ownBlock\/∃g,v.ownBlock=some g/\W.heap.size<=g)->∀g,v.ownBlock=some g->¬F g:=fun v hv g L hF=>by
  rcases hv with e|⟨g',e,aI⟩
  .exact ag g (by rw[<-e];exact L) hF
  .rw[L]at e;cases e;have:=au g hF;omega
 have ao:jz W6 d B (fun g=>¬F g) w t M (N++[⟨l,n,id,by omega⟩,⟨X,n+1,id,by omega⟩,⟨g2,n+2,id,by omega⟩,⟨Y,n+3,id,by omega⟩]) y i a r s:=by
  refine⟨ay.trans rfl,h.own.ge,?_,?_,h.own.ss.other (fun g Z _ k _=>O g 34 Z k (by decide) (by decide) (by decide)),h.own.sm.other (fun g Z _ k _=>O g 9 Z k (by decide) (by decide) (by decide)),?_,?_,fun g L=>aa g (h.own.KP g L)⟩
  .have:=ak.other (w':=W6) (fun g Z _ k _=>(k6 g _ k (fun e=>by rw[e,ad]at k;cases k) (jA z k (by decide))).trans k.symm);rw[cI,dF];exact this
  .rw[cI,dF];exact an
  .intro e he;obtain⟨r1,r2⟩:=h.own.tk e he;exact⟨r1.other (fun g Z _ k _=>O g 9 Z k (by decide) (by decide) (by decide)),fun g L=>⟨aa g (r2 g L).1,(r2 g L).2⟩⟩
  .intro e he;have H:∀(v:Value) (j:Nat) (x:Int),Row c d 36 6 v j (marks j x)->Row W6 d 36 6 v j (marks j x):=fun v j x hv=>hv.other (fun g Z _ k _=>O g 36 Z k (by decide) (by decide) (by decide))
   rcases cr.1 he with he|he
   .exact⟨H _ _ _ (h.own.nk e he).1,fun g L=>aa g ((h.own.nk e he).2 g L)⟩
   .simp only[cQ,Qd,or_false]at he;rcases he with rfl|rfl|rfl|rfl
    .exact⟨H _ _ _ h.row,ag⟩
    .exact⟨H _ _ _ (h.gs (X,n+1) (by simp)).1,E _ (h.gs (X,n+1) (by simp)).2⟩
    .exact⟨H _ _ _ (h.gs (g2,n+2) (by simp)).1,E _ (h.gs (g2,n+2) (by simp)).2⟩
    .exact⟨H _ _ _ (h.gs (Y,n+3) (by simp)).1,E _ (h.gs (Y,n+3) (by simp)).2⟩
 have ap:∀(b:Nat) (o:Obj),W.heap[b]?=some o->(∀Z T f,o≠ .cells Z T f)->W6.heap[b]?=some o:=fun b o q ho=>by
  have ne:∀{V:World} {e aq j:Nat} {v:Value} {xs:List Value},Row V d e aq v j xs->V.heap[b]?=some o->some b≠v.ownBlock:=fun hv aB aC=>by
   obtain⟨Z,k,_⟩:=hv.eC aC.symm;rw[aB]at k;exact ho _ _ _ (gQ k)
  have u:b≠B:=fun e=>by
   obtain⟨Z',C⟩:=af;rw[e,C]at q;exact ho _ _ _ (gQ q).symm
  have hl:l.ownBlock≠some b:=fun e=>by
   obtain⟨Z',C⟩:=P b e;rw[q]at C;exact ho _ _ _ (gQ C)
  have I:=h.kept b _ q u hl;have D:=k4 b _ I u (ne h.own.cs I);exact k6 b _ D u (ne z D)
 have ar:∀(b:Nat) (Z:Array Value) (T:Nat) (f:Nat×Nat),W.heap[b]?=some (.cells Z T f)->T≠87->T≠36->T≠28->T≠3->W6.heap[b]?=some (.cells Z T f):=fun b Z T f q h1 h4 h5 h6=>by
  have u:b≠B:=fun e=>by
   obtain⟨Z',C⟩:=af;rw[e,C]at q;cases q;exact h1 rfl
  have hl:l.ownBlock≠some b:=fun e=>by
   obtain⟨Z',C⟩:=P b e;rw[q]at C;cases C;exact h4 rfl
  have I:=h.kept b _ q u hl;have D:=k4 b _ I u (jA h.own.cs I h5);exact k6 b _ D u (jA z D h6)
 exact⟨ao.OD (fun _ h=>h),⟨h.below.trans (ax.trans aA),fun b Z T f q h1 h2 h3 h4 h5 h6=>ar b Z T f q h1 h4 h5 h6,ap,fun b Z f q _=>ar b Z 9 f q (by decide) (by decide) (by decide) (by decide)⟩⟩
def pF (F:Nat->Prop)(q c:Nat)(a:List Value)(k g:Nat):Prop:=(g<q/\¬F g)\/(∃i b,i<k/\a[i]?=some b/\b.ownBlock=some g)\/c<=g
structure Nb (W wr:World)(lo lo2 B:Nat)(F:Nat->Prop)(rv jv:Value)(ml nx:Nat)(N:List zo)(csv cmv l:Value)(cs:List iO)(kvs:List Value)(k:Nat)(M':List xA)(ssv smv:Value):Prop where
 own:jz wr lo B (pF F lo2 W.heap.size kvs k) rv jv M' N (nx+k) csv cmv ssv smv
 len:M'.length=ml+4*k
 row:Row wr lo 36 6 l cs.length (gx cs kvs)
 keys:∀(i:Nat) (c:iO) (kv:Value),k<=i->cs[i]?=some c->kvs[i]?=some kv->gV wr lo2 kv c.keys
 kept:tU W wr lo F
theorem Nb.not {A:Nat}(h:Nb W wr d q B F w t u y N m p l cs a k M' r s)(C:∀e∈a,∀b,e.ownBlock=some b->b<A)(D:A<=W.heap.size)(E:∀(i j:Nat) (e f:Value) (b:Nat),i<j->a[i]?=some e->a[j]?=some f->e.ownBlock=some b->f.ownBlock≠some b){i:Nat}{c:iO}{e:Value}(v:k<=i)(H:cs[i]?=some c)(n:a[i]?=some e){g:Nat}(x:e.ownBlock=some g):¬pF F q W.heap.size a k g:=by
 rintro (h1|⟨j,f,I,o,z⟩|h1)
 .have:=(vg (h.keys i c e v H n) x).1;omega
 .exact E j i f e g (by omega) o n z x
 .have:=C e (cu n) g x;omega
theorem Nb.step {w':World}{K:Nat}{D E z:Value}{L:List xA}{c:iO}(h:Nb W wr d q B F w t u y N m p l cs a k M' r s)(U:∀z∈a,∀b,z.ownBlock=some b->b<K)(M:K<=W.heap.size)(O:∀(i j:Nat) (z n:Value) (b:Nat),i<j->a[i]?=some z->a[j]?=some n->z.ownBlock=some b->n.ownBlock≠some b)(aa:d<=W.heap.size)(V:∀z∈a,∀b,z.ownBlock=some b->q<=b)(P:∀g,F g->g<q)(ab:q<=W.heap.size)(H:a[k]?=some z)(J:jz w' d B (fun g=>pF F q W.heap.size a k g\/z.ownBlock=some g\/wr.heap.size<=g) w t L N (y+k+1) m p D E)(hM:L.length=M'.length+4)(A:Lo wr w' d B (pF F q W.heap.size a k) z):Nb W w' d q B F w t u y N m p l cs a (k+1) L D E:=by
 have ac:=h.kept.below.size;have C:∀(b:Nat) (Z:Array Value) (T:Nat) (f:Nat×Nat),wr.heap[b]?=some (.cells Z T f)->T≠87->b≠B:=fun b Z T f x hT e=>by rw[e,h.own.wd]at x;cases x;exact hT rfl
 refine⟨J.more (fun g hg=>?_),by rw[hM,h.len];omega,h.row.other (fun g Z _ I _=>?_),fun i c n ad X v=>?_,h.kept.trans ⟨A.below,fun b Z T f x h1 Y h3 h4 U O=>?_,fun b o x Q=>A.kept b o x (fun e=>by rw[e,h.own.wd]at x;exact Q _ _ _ (gQ x).symm) (fun Z f=>Q Z _ f) (fun Z f e=>absurd e (Q Z _ f)),fun b Z f x hF=>?_⟩⟩
 .rcases hg with(h1|⟨i,n,K,h1,Y⟩|h1)|h1|h1
  .exact .inl h1
  .exact .inr (.inl ⟨i,n,by omega,h1,Y⟩)
  .exact .inr (.inr h1)
  .exact .inr (.inl ⟨k,z,by omega,H,h1⟩)
  .exact .inr (.inr (by omega))
 .exact(A.kept g _ I (C g Z 36 _ I (by decide)) (fun Z f e=>by cases e) (fun Z f e=>by cases e)).trans I.symm
 .have R:=h.keys i c n (by omega) X v;rcases R with R|⟨b,cc,e1,e2,Z,I,hz,h3⟩
  .exact .inl R
  have x:n.ownBlock=some b:=by rw[e1];rfl
  refine .inr ⟨b,cc,e1,e2,Z,?_,hz,h3⟩;refine(A.kept b _ I (C b Z 9 _ I (by decide)) (fun Z f e=>by cases e) (fun Z' f _=>⟨h.not U M O (by omega) X v x,fun e=>?_⟩));exact O k i z n b (by omega) H v e x
 .exact A.kept b _ x (C b Z T f x h1) (fun Z f e=>by grind) (fun Z f e=>by simp_all)
 .have ae:=P b hF;refine A.kept b _ x (C b Z 9 f x (by decide)) (fun Z f e=>by cases e) (fun Z' f' _=>⟨?_,fun e=>?_⟩)
  .rintro (h1|⟨j,n,hj,v,S⟩|h1)
   .exact h1.2 hF
   .have:=V n (cu v) b S;omega
   .omega
  .have:=V z (cu H) b e;omega
end Al
namespace Al
variable {W E a b d:World}{F S:Nat->Prop}{s B D n:Nat}{z y r p t w l f:Value}{M:List xA}{N:List zo}{x id:Int}{G:List (Value×Nat)}{A c:Obj}
theorem tU.refl (W:World)(s:Nat)(F:Nat->Prop):tU W W s F:=⟨ct _ _,fun _ _ _ _ h _ _ _ _ _ _=>h,fun _ _ h _=>h,fun _ _ _ h _=>h⟩
theorem Gy {a o:Nat}{cs:List iO}{b:List Value}(h:jz W s B (fun g=>g<a/\¬F g) z y M N D r p t w)(j:W.ownsRow a 36 6 l cs.length (gx cs b))(k:∀(i:Nat) (c:iO) (d:Value),cs[i]?=some c->b[i]?=some d->gV W a d c.keys)(e:s<=a):Nb W W s a B F z y M.length D N r p l cs b 0 M t w:=
 ⟨h.more (fun g m=> .inl m),by omega,(Row.Bz j).lower e,fun i c d _ n f=>k i c d n f,tU.refl _ _ _⟩
structure Lh (W wr:World)(lo B:Nat)(S:Nat->Prop)(rv jv:Value)(M:List xA)(N:List zo)(nx:Nat)(csv cmv ssv smv l:Value)(n:Nat)(ys:List Value):Prop where
 own:jz wr lo B S rv jv M N nx csv cmv ssv smv
 row:Row wr lo 36 6 l n ys
 kept:∀(b:Nat) (o:Obj),W.heap[b]?=some o->b≠B->l.ownBlock≠some b->wr.heap[b]?=some o
 below:Below lo W wr
theorem Gz {wr:World}{j:List Value}(h:jz wr s B S z y M N D r p t w)(E:Row wr s 36 6 l n j)(H:s<=wr.heap.size)(k:Nat)(I:x=(k:Int))(A:Obj):Lh ((wr.setCell ⟨B,6,none⟩ (.int .i64 x)).alloc A) ((wr.setCell ⟨B,6,none⟩ (.int .i64 x)).alloc A) s B S z y M N k r p t w l n j/\((wr.setCell ⟨B,6,none⟩ (.int .i64 x)).alloc A).heap[wr.heap.size]?=some A/\((wr.setCell ⟨B,6,none⟩ (.int .i64 x)).alloc A).heap.size=wr.heap.size+1/\tU wr ((wr.setCell ⟨B,6,none⟩ (.int .i64 x)).alloc A) s F/\∃Z,((wr.setCell ⟨B,6,none⟩ (.int .i64 x)).alloc A).heap[B]?=some (.cells Z 87 (0,0)):=by
 have m:=h.count k;rw[<-I]at m;have d:(wr.setCell ⟨B,6,none⟩ (.int .i64 x)).heap.size=wr.heap.size:=by simp
 have q:Row (wr.setCell ⟨B,6,none⟩ (.int .i64 x)) s 36 6 l n j:=E.other (fun g Z _ i _=>cz _ _ _ _ (fun e=>by rw[show g=B from e,h.wd]at i;cases i));have u:Below s wr (wr.setCell ⟨B,6,none⟩ (.int .i64 x)):=(ct _ _).setCell (p:=⟨B,6,none⟩) h.ge _;have c:∀(b:Nat) (o:Obj),wr.heap[b]?=some o->b≠B->(wr.setCell ⟨B,6,none⟩ (.int .i64 x)).heap[b]?=some o:=fun b o a J=>fV a J
 generalize wr.setCell ⟨B,6,none⟩ (.int .i64 x)=v at*;have C:Below v.heap.size v (v.alloc A):=cU;refine⟨⟨m.below C,q.other (fun g Z _ i _=>C.block g (cA i)),fun _ _ h _ _=>h,ct _ _⟩,fD d.symm,by rw[cF,d],⟨u.trans (C.mono (by omega)),fun b Z T f a K _ _ _ _ _=>dI (c b _ a (fun e=>by rw[e,h.wd]at a;cases a;exact K rfl)) _,fun b o a L=>dI (c b _ a (fun e=>by rw[e,h.wd]at a;exact L _ _ _ (gQ a).symm)) _,fun b Z f a _=>dI (c b _ a (fun e=>by rw[e,h.wd]at a;cases a)) _⟩,⟨_,dI m.wd _⟩⟩
theorem Lh.put {g c j:Nat}{X:List Value}(id:Int)(h:Lh W E s B S z y M N D r p t w (.slice (some ⟨g,0,none⟩) n c) n (marks j id++X.drop (j*6)))(d:¬S g)(m:X.length=n*6)(q:j<n):Lh W ((((((E.setCell ⟨g,j*6,none⟩ (.int .i64 0)).setCell ⟨g,j*6+1,none⟩ (.slice none 0 0)).setCell ⟨g,j*6+2,none⟩ (.string ⟨#[]⟩)).setCell ⟨g,j*6+3,none⟩ (.string ⟨#[]⟩)).setCell ⟨g,j*6+4,none⟩ (.bool false)).setCell ⟨g,j*6+5,none⟩ (.int .i64 id)) s B S z y M N D r p t w (.slice (some ⟨g,0,none⟩) n c) n (marks (j+1) id++X.drop ((j+1)*6)):=by
 have one:∀(a:World) (f:List Value) (i:Nat) (v:Value),Lh W a s B S z y M N D r p t w (.slice (some ⟨g,0,none⟩) n c) n f->Lh W (a.setCell ⟨g,i,none⟩ v) s B S z y M N D r p t w (.slice (some ⟨g,0,none⟩) n c) n (f.set i v):=fun a f i v h=>by
  obtain⟨u,F,k,x⟩:=h.row.eC (g:=g) rfl;exact⟨h.own.grown h.row (.inr rfl) (fun H e=>by cases e;exact d) (AQ a g i v),h.row.Pe v,fun b o A C l=>fV (h.kept b o A C l) (fun e=>l (by rw[show b=g from e];rfl)),h.below.setCell (p:=⟨g,i,none⟩) k _⟩
 have:=one _ _ (j*6+5) (.int .i64 id) (one _ _ (j*6+4) (.bool false) (one _ _ (j*6+3) (.string ⟨#[]⟩) (one _ _ (j*6+2) (.string ⟨#[]⟩) (one _ _ (j*6+1) (.slice none 0 0) (one _ _ (j*6) (.int .i64 0) h)))));rw[Hq id m q]at this;exact this
theorem Lh.at_ (h:Lh W E s B S z y M N D r p t w l n (marks n id)):uO W E s B S z y M N D r p t w l n id []:=
 ⟨h.own,h.row,(fun e a=>by cases a),h.kept,h.below⟩
theorem FK (h:uO W a s B S z y M N D r p t w l n id G)(c:(a.alloc A).grownBy b r.ownBlock):b.heap[B]?=some (.cells #[z,y,r,p,t,w,.int .i64 (D:Int)] 87 (0,0)):=by
 have d:Below a.heap.size a (a.alloc A):=cU;exact(c.block B (by rw[cF];have:=cA h.own.wd;omega) (jA h.own.cs h.own.wd (by decide))).trans ((d.block B (cA h.own.wd)).trans h.own.wd)
theorem Bn (h:uO W a s B S z y M N D r p t w l n id G)(j:(a.alloc A).grownBy b r.ownBlock):Row ((b.setCell ⟨B,2,none⟩ f).alloc c) s 3 1 p N.length (N.map fun e=>Value.int .i64 e.id):=by
 have k:Below a.heap.size a (a.alloc A):=cU;have i:(a.alloc A).heap.size=a.heap.size+1:=cF _ _;exact h.own.cm.other (fun g Z m d _=>(dI (fV ((j.block g (by rw[i];have:=cA d;omega) (jA h.own.cs d (by decide))).trans ((k.block g (cA d)).trans d)) (fun e=>by rw[show g=B from e,h.own.wd]at d;cases d)) _).trans d.symm)
theorem JB (h:uO W a s B S z y M N D r p t w l n id G)(g:(a.alloc A).grownBy b r.ownBlock)(j:((b.setCell ⟨B,2,none⟩ f).alloc c).grownBy d p.ownBlock):d.heap[B]?=some (.cells #[z,y,f,p,t,w,.int .i64 (D:Int)] 87 (0,0)):=by
 have k:=dh (i:=2) (FK h g) f;have i:=Bn (c:=c) (f:=f) h g;have e:((b.setCell ⟨B,2,none⟩ f).alloc c).heap[B]?=some (.cells #[z,y,f,p,t,w,.int .i64 (D:Int)] 87 (0,0)):=dI (k.trans rfl) _;generalize (b.setCell ⟨B,2,none⟩ f).alloc c=m at*;exact(j.block B (cA e) (jA i e (by decide))).trans e
theorem Lt {C:Nat}(m:a.heap[C]?=some (.cells #[.int .i64 0,.slice none 0 0,.string ⟨#[]⟩,.string ⟨#[]⟩,.bool false,.int .i64 x] 36 (0,0)))(h:uO W a s B S z y M N D r p t w l n id G)(e:(a.alloc A).grownBy b r.ownBlock)(i:((b.setCell ⟨B,2,none⟩ f).alloc c).grownBy d p.ownBlock)(j:C≠B):d.cell? ⟨C,5,none⟩=some (.int .i64 x):=by
 have o:=JA h.own.cs m e;have g:=Bn (c:=c) (f:=f) h e;have k:((b.setCell ⟨B,2,none⟩ f).alloc c).heap[C]?=some (.cells #[.int .i64 0,.slice none 0 0,.string ⟨#[]⟩,.string ⟨#[]⟩,.bool false,.int .i64 x] 36 (0,0)):=dI (fV o j) _;generalize (b.setCell ⟨B,2,none⟩ f).alloc c=q at*;exact cn ((i.block C (cA k) (jA g k (by decide))).trans k) 5
theorem xt (F:Nat->Prop)(B D s H hi:Nat)(z y r p t w:Value)(M:List xA)(N:List zo)(la:Option Addr)(lc n:Nat)(cs:List iO)(W:World)(h:jz W s B (fun g=>g<H/\¬F g) z y M N D r p t w)(hn:cs.length=n)(hl:hG W H hi (.slice la n lc) cs)(aN:hi<=W.heap.size)(ax:s<=H)(aO:H<=W.heap.size)(bO:n<=2000000)(aP:∀c∈cs,c.keys.length<=1000000)(hM:M.length<=4900000000000)(hN:N.length<=1000000000000)(bP:D<=900000000000000)(aQ:∀g,F g->g<H):Calls prog 110 #[.pointer (some ⟨B,0,none⟩),.slice la n lc] W fun e w'=>e= .returned (.tuple #[])/\∃M' N' f aR U V,jz w' s B (fun g=>g<w'.heap.size/\¬F g) z y M' N' (D+n+1) f aR U V/\M'.length=M.length+4*n/\N'.length=N.length+4/\tU W w' s F:=by
 obtain⟨x,h1,h2,hf,h4,h5,h6⟩:=hl;have HK:=cb (Gy (o:=hi) h h2 h4 ax);have HF:=cb (cd h1 (cd hf (cd h5 (cd h6 (cd aP hn)))));have HW:Hid (∃Z,W.heap[B]?=some (.cells Z 87 (0,0))):=⟨_,h.wd⟩
 have ay:Hid (∀b,(Value.slice la n lc).ownBlock=some b->(∃Z,W.heap[b]?=some (.cells Z 36 (0,0)))/\H<=b):=fun b hb=>by
  obtain⟨aS,hc,aH,_⟩:=(Row.Bz h2).eC hb;exact⟨⟨aS,hc⟩,aH⟩
 have bm:=cb h4;have ap:=cb aQ;have H7:Hid (∀kv∈x,∀b,kv.ownBlock=some b->H<=b):=fun kv R b hb=>by
  obtain⟨i,aq,e⟩:=dG.1 R;have bn:i<cs.length:=by rw[<-h1];exact aq
  exact(vg (h4 i _ kv (cp bn) (by rw[cp aq,e])) hb).1
 clear h1 hf h5 h6 aP h2 h4 hn aQ;generalize aT:M.length=ml at*;have bQ:=cb aT;clear aT h;go_enter func110,ntmps110;go_wp2_with fail
 go_loopw [4] (fun i wr=>∃(k:Nat) (M':List xA) (s1 s2:Value),i= .int .i64 (k:Int)/\k<=n/\Hid (Nb W wr s H B F z y ml D N r p (.slice la n lc) cs x k M' s1 s2)) (fun i _=>n-(intOf i).toNat)
 case atStart=>exact⟨0,M,t,w,rfl,cG _,HK⟩
 case round=>
  clear HK;obtain⟨k,M',s1,s2,rfl,hk,HK⟩:=hrel;by_cases ar:k<n
  .have l:=HK.out.row;rw[HF.out.2.2.2.2.2]at l;obtain⟨g,I⟩:=l.some_ (by omega);subst I;have hc:cs[k]?=some (cs[k]'(by rw[HF.out.2.2.2.2.2];exact ar)):=cp _;have R:x[k]?=some (x[k]'(by rw[HF.out.1,HF.out.2.2.2.2.2];exact ar)):=cp _;generalize cs[k]'(by rw[HF.out.2.2.2.2.2];exact ar)=c at*;generalize x[k]'(by rw[HF.out.1,HF.out.2.2.2.2.2];exact ar)=kv at*;have ai:=Bo cs x k 1 c kv hc R (by omega);have aU:(gx cs x)[k*6+1]?=some kv:=by rw[Nat.mul_comm];exact ai
   obtain⟨ck,bo⟩:=l.cell aU;obtain⟨ka,kc,xs,bp,aV⟩:=Ka (HK.out.keys k c kv (PC _) hc R);have bq:c.keys.length<=1000000:=HF.out.2.2.2.2.1 c (cu hc);have X:∀g',kv.ownBlock=some g'->¬pF F H W.heap.size x k g':=fun g' Y=>HK.out.not HF.out.2.2.1 aN HF.out.2.2.2.1 (PC _) hc R Y
   have ae:=HK.out.len;have bR:=HK.out.kept.below.size;subst bp;have HT:=cb (BC B (D+k) c.keys.length s (pF F H W.heap.size x k) z y r p s1 s2 M' N ka kc xs wr HK.out.own (aV.lower ax) X (by omega) bq (by omega) (by omega));have aW:=cb (fun w' U V M2 (a:jz w' s B (fun g=>pF F H W.heap.size x k g\/(Value.slice ka c.keys.length kc).ownBlock=some g\/wr.heap.size<=g) z y M2 N (D+k+1) r p U V) (b:M2.length=M'.length+4) (d:Lo wr w' s B (pF F H W.heap.size x k) (.slice ka c.keys.length kc))=>HK.out.step (c:=c) HF.out.2.2.1 aN HF.out.2.2.2.1 (by omega) H7.out ap.out aO R a b d);clear ai aU aV X ae hc R l HK
   generalize c.keys.length=kl at*;go_wp2_with fail
   go_at_call 150;refine HT.out.mono ?_;rintro e w2 ⟨rfl,m,g1,g2,g3,U,V,hO,aX⟩;have br:=cb (aW.out w2 U V _ hO (by simp) aX);clear hO aX HT aW;go_wp2;go_roundw;case rel=>exact⟨k+1,_,_,_,by go_num,by omega,br⟩
   case measure=>simp[intOf];omega
  .have aY:n=k:=by omega
   subst aY;have T:=HK.out.own;have l:=HK.out.row;have ae:=HK.out.len;have aI:=HK.out.kept;rw[HF.out.2.2.2.2.2]at l;have hX:(gx cs x).length=n*6:=l.1;have X:∀g,(Value.slice la n lc).ownBlock=some g->¬pF F H W.heap.size x n g:=by
    intro g I;obtain⟨⟨Z,hZ⟩,aH⟩:=ay.out g I;rintro (h1|⟨i,kv,aq,R,Y⟩|h1)
    .omega
    .have bs:i<cs.length:=by rw[HF.out.2.2.2.2.2];exact aq
     have bt:cs[i]?=some cs[i]:=cp bs;have bu:=bm.out i _ kv bt R;rcases bu with⟨rfl,_⟩|⟨b,c,rfl,_,Z',aZ,_⟩
     .cases Y
     .cases Y;rw[hZ]at aZ;cases aZ
    .have:=cA hZ;omega
   obtain⟨q,hq⟩:∃q,q=D+n:=⟨_,rfl⟩
   rw[<-hq]at T;have c6:=cn T.wd 6;have cf:=dN T.wd;simp at c6;have bS:=cA T.wd;have bI:=aI.below.size;obtain⟨a0,a1,a2,a3,a4⟩:=Gz (x:=(q:Int)+1) (F:=F) T l (by omega) (q+1) (by omega) (.cells #[.int .i64 0,.slice none 0 0,.string ⟨#[]⟩,.string ⟨#[]⟩,.bool false,.int .i64 (-((q:Int)+1))] 36);have HS:=cb (cd a0 (cd a1 (cd a2 (cd a3 a4))));have HQ:=cb (cd hq (cd ae (cd hX (cd X aI))));have az:∀g,(Value.slice la n lc).ownBlock=some g->g<wr.heap.size:=fun g I=>(l.eC I).choose_spec.2.2
   have bv:=cb az;have aj:Hid ((∀g,pF F H W.heap.size x n g->¬F g)/\(∀g,(Value.slice la n lc).ownBlock=some g->¬F g)/\∀g,F g->g<wr.heap.size):=⟨fun g I hF=>by
    have bT:=ap.out g hF;rcases I with h1|⟨i,kv,_,R,hb⟩|h1
    .exact h1.2 hF
    .have:=H7.out kv (cu R) g hb;omega
    .omega,fun g I hF=>by have:=(ay.out g I).2;have:=ap.out g hF;omega,fun g hF=>by have:=ap.out g hF;omega⟩
   have bU:q<=900000002000000:=by omega
   clear HK T l ae aI hX X hq a0 a1 a2 a3 a4 az;go_wp2_with fail
   generalize-((q:Int)+1)=id at*;generalize (wr.setCell ⟨B,6,none⟩ (.int .i64 ((q:Int)+1))).alloc (.cells #[.int .i64 0,.slice none 0 0,.string ⟨#[]⟩,.string ⟨#[]⟩,.bool false,.int .i64 id] 36)=W1 at*;generalize wr.heap.size=C at*;have aa:C≠B:=by omega
   have ag:(Value.slice la n lc).ownBlock≠some C:=fun e=>by have:=bv.out _ e;omega
   have A:s<=W1.heap.size:=by have:=HS.out.2.2.1;omega
   have aJ:Hid ((∀g,pF F H W.heap.size x n g->¬F g)/\(∀g,(Value.slice la n lc).ownBlock=some g->¬F g)/\∀g,F g->g<W1.heap.size):=⟨aj.out.1,aj.out.2.1,fun g hF=>by have:=aj.out.2.2 g hF;have:=HS.out.2.2.1;omega⟩
   have HX:=cb HQ.out.2.2.1;clear c6 cf;go_loopw [6] (fun i w2=>∃j:Nat,i= .int .i64 (j:Int)/\j<=n/\Hid (Lh W1 w2 s B (pF F H W.heap.size x n) z y M' N (q+1) r p s1 s2 (.slice la n lc) n (marks j id++(gx cs x).drop (j*6)))) (fun i _=>n-(intOf i).toNat)
   case atStart=>exact⟨0,rfl,cG _,by have:=HS.out.1;simpa [marks,Hid]using this⟩
   case round=>
    obtain⟨j,rfl,hj,HL⟩:=hrel;have ab:=HL.out.kept C _ HS.out.2.1 aa ag;have q0:=cn ab 0;have q1:=cn ab 1;have q2:=cn ab 2;have q3:=cn ab 3;have q4:=cn ab 4;have q5:=cn ab 5;simp at q0 q1 q2 q3 q4 q5;have ah:=cA ab;clear ab;by_cases bw:j<n
    .obtain⟨g,I⟩:=HL.out.row.some_ (by omega);subst I;have bV:¬g=C:=fun e=>ag (by rw[e];rfl)
     obtain⟨_,⟨_,h0⟩|⟨g',bW,aS,e1,aH,hh,bX,bJ,ht⟩⟩:=HL.out.row
     .omega
     cases e1;have ce:∀i,i<6->∃u,wr.cell? ⟨g,j*6+i,none⟩=some u:=fun i hi=>⟨_,(cn hh _).trans (dZ (by omega))⟩
     obtain⟨u0,e0⟩:=ce 0 (by omega);obtain⟨u1,e1⟩:=ce 1 (by omega);obtain⟨u2,e2⟩:=ce 2 (by omega);obtain⟨u3,e3⟩:=ce 3 (by omega);obtain⟨u4,e4⟩:=ce 4 (by omega);obtain⟨u5,e5⟩:=ce 5 (by omega);rw[im]at e0;have bY:=dN hh;have bo:=cA hh;have HP:=cb (HL.out.put id (HQ.out.2.2.2.1 g rfl) HX.out bw);clear hh ht ce;go_wp2;go_roundw;case rel=>exact⟨j+1,by go_num,by omega,HP⟩
     case measure=>simp[intOf];omega
    .have a5:j=n:=by omega
     subst a5;have hT:=HL.out;rw[nY (by rw[HX.out];exact PC _),il]at hT;have HA:=cb hT.at_;clear HL hT;obtain⟨aK,aL,hi,a6,a7,a8,a9⟩:=EH;have HI:=cb (cd hi (cd a6 (cd a7 (cd a8 a9))));clear hi a6 a7 a8 a9;go_upto_region 11 with(first
      |(at_builtin;refine fW _ rfl _ _ _ rfl s 36 aK aL 6 80 lQ HI.out.1 HI.out.2.1 HI.out.2.2.1 HI.out.2.2.2.1 HI.out.2.2.2.2 (by omega) (.slice la j lc) j (marks j id) rfl (HA.out.alloc A _).row ⟨_,0,none⟩ 1 1 [.int .i64 0,.slice none 0 0,.string ⟨#[]⟩,.string ⟨#[]⟩,.bool false,.int .i64 id] rfl rfl (World.news_of_block (fD rfl)) (by simp[Value.oneCell']) (by omega) (by unfold maxLen;omega) (by omega) (by have:=HA.out.below.size;simp;omega) ?_;intro v' bZ l I S J;obtain⟨aA,aB,ad⟩:=l.form;subst ad;have ak:=cb ((HA.out.alloc A _).grow (k:=1) A HQ.out.2.2.2.1 (by simp) l I S J);clear l I S J;have O:=ak.out.kept C _ HS.out.2.1 aa ag;clear q0 q1 q2 q3 q4 q5 ah;have q0:=cn O 0;have q1:=cn O 1;have q2:=cn O 2;have q3:=cn O 3;have q4:=cn O 4;have q5:=cn O 5;simp at q0 q1 q2 q3 q4 q5;have ah:=cA O;clear O)
      |fail)
     clear HA;go_upto_region 12 with(first
      |(at_builtin;refine fW _ rfl _ _ _ rfl s 36 aK aL 6 80 lQ HI.out.1 HI.out.2.1 HI.out.2.2.1 HI.out.2.2.2.1 HI.out.2.2.2.2 (by omega) (.slice la j lc) j (marks j id) rfl (ak.out.alloc A _).row ⟨_,0,none⟩ 2 2 [.int .i64 0,.slice none 0 0,.string ⟨#[]⟩,.string ⟨#[]⟩,.bool false,.int .i64 id,.int .i64 0,.slice none 0 0,.string ⟨#[]⟩,.string ⟨#[]⟩,.bool false,.int .i64 id] rfl rfl (World.news_of_block (fD rfl)) (by simp[Value.oneCell']) (by omega) (by unfold maxLen;omega) (by omega) (by have:=ak.out.below.size;simp;omega) ?_;intro v' b0 l I S J;obtain⟨aC,aD,ad⟩:=l.form;subst ad;have al:=cb ((ak.out.alloc A _).grow (k:=2) A HQ.out.2.2.2.1 (by simp) l I S J);clear l I S J;have P:=al.out.kept C _ HS.out.2.1 aa ag;clear q0 q1 q2 q3 q4 q5 ah;have q0:=cn P 0;have q1:=cn P 1;have q2:=cn P 2;have q3:=cn P 3;have q4:=cn P 4;have q5:=cn P 5;simp at q0 q1 q2 q3 q4 q5;have ah:=cA P;clear P)
      |fail)
     clear ak;go_upto_region 13 with(first
      |(at_builtin;refine fW _ rfl _ _ _ rfl s 36 aK aL 6 80 lQ HI.out.1 HI.out.2.1 HI.out.2.2.1 HI.out.2.2.2.1 HI.out.2.2.2.2 (by omega) (.slice la j lc) j (marks j id) rfl (al.out.alloc A _).row ⟨_,0,none⟩ 3 3 [.int .i64 0,.slice none 0 0,.string ⟨#[]⟩,.string ⟨#[]⟩,.bool false,.int .i64 id,.int .i64 0,.slice none 0 0,.string ⟨#[]⟩,.string ⟨#[]⟩,.bool false,.int .i64 id,.int .i64 0,.slice none 0 0,.string ⟨#[]⟩,.string ⟨#[]⟩,.bool false,.int .i64 id] rfl rfl (World.news_of_block (fD rfl)) (by simp[Value.oneCell']) (by omega) (by unfold maxLen;omega) (by omega) (by have:=al.out.below.size;simp;omega) ?_;intro v' bx l I S J;obtain⟨aE,aF,ad⟩:=l.form;subst ad;have L:=cb ((al.out.alloc A _).grow (k:=3) A HQ.out.2.2.2.1 (by simp) l I S J);clear l I S J;have Q:=L.out.kept C _ HS.out.2.1 aa ag;clear q0 q1 q2 q3 q4 q5 ah;have q0:=cn Q 0;have q1:=cn Q 1;have q2:=cn Q 2;have q3:=cn Q 3;have q4:=cn Q 4;have q5:=cn Q 5;simp at q0 q1 q2 q3 q4 q5;have ah:=cA Q;clear Q)
      |fail)
     clear al;obtain⟨bz,ba,bb,bc,bd⟩:=Nu;have HJ:=cb (cd ba (cd bb (cd bc bd)));obtain⟨i3,be,bf,bg,bh⟩:=Oc;have au:=cb (cd be (cd bf (cd bg bh)));clear ba bb bc bd be bf bg bh;have c2:=cn L.out.own.wd 2;have c3:=cn L.out.own.wd 3;have cf:=dN L.out.own.wd;simp at c2 c3;have bK:=cA L.out.own.wd;have bA:s<=bx.heap.size:=by have:=L.out.below.size;omega
     have bi:=cb (L.out.kept C _ HS.out.2.1 aa ag);generalize bj:N.length=nl at*;have av:=cb bj;clear bj;go_upto_region 14 with(first
      |(at_builtin;refine fW _ rfl _ _ _ rfl s 28 bz (.slice none 0 0) 1 24 underlying84 HJ.out.1 HJ.out.2.1 HJ.out.2.2.1 HJ.out.2.2.2 rfl (by omega) r nl (N.map (·.v)) rfl (by have hr:=(L.out.alloc A (.cells #[.slice la j lc,.slice aA (j+1) aB,.slice aC (j+2) aD,.slice aE (j+3) aF] 28)).own.cs;rw[av.out]at hr;exact hr) ⟨_,0,none⟩ 4 4 [.slice la j lc,.slice aA (j+1) aB,.slice aC (j+2) aD,.slice aE (j+3) aF] rfl rfl (World.news_of_block (fD rfl)) (by simp[Value.oneCell']) (by omega) (by unfold maxLen;omega) (by omega) (by simp;omega) ?_;intro f aw l I S J;obtain⟨ta,tc,ad⟩:=l.form;subst ad;have am:=cb (cd l I);have bk:=I.size;have ac:=FK L.out I;have an:=JA L.out.own.cs bi.out I;clear c2 c3 cf q0 q1 q2 q3 q4 q5;have c2:=cn ac 2;have c3:=cn ac 3;have cf:=dN ac;simp at c2 c3;have q5:=cn an 5;simp at q5;have bB:=cA ac;have bC:=cA an;clear l I S J ac an)
      |fail)
     have bD:s<=aw.heap.size:=by rw[cF]at bk;omega
     have ao:=Bn (c:= .cells #[.int .i64 id,.int .i64 id,.int .i64 id,.int .i64 id] 3) (f:= .slice ta (nl+4) tc) L.out am.out.2;rw[av.out]at ao;have bl:=cb (show∀w',w'.heap=((aw.setCell ⟨B,2,none⟩ (.slice ta (nl+4) tc)).alloc (.cells #[.int .i64 id,.int .i64 id,.int .i64 id,.int .i64 id] 3)).heap->Row w' s 3 1 p nl (N.map fun e=>Value.int .i64 e.id)from fun w' hw=>ao.heap hw);clear ao;have bL:¬C=B:=aa;have bM:¬B=C:=fun e=>aa e.symm
     refine wp_region_held_drew (S:=fun E=>E.cell? ⟨C,5,none⟩=some (.int .i64 id)) (by kernel_rfl) (by(try dsimp only);go_keep) (fun v=>?_);refine wpAnyH_take (i:=0) Au (by kernel_rfl) (by kernel_rfl) (by kernel_rfl) (fun _ _ _ h=>h) (oa ⟨by rfl,by rintro _ h;go_simp;try with_reducible rfl⟩) (by assumption) ?_;try simp only[Act.put,cT,dk,dr]
     refine wpAnyH_take (i:=1) (fM Au) (by kernel_rfl) (by kernel_rfl) (by kernel_rfl) (fun _ _ _ h=>h) (oa ⟨by rfl,by rintro _ h;go_simp;try with_reducible rfl⟩) (by assumption) ?_;try simp only[Act.put,cT,dk,dr]
     refine wpAnyH_take (i:=2) (fM (fM Au)) (by kernel_rfl) (by kernel_rfl) (by kernel_rfl) (fun _ _ _ h=>h) (oa ⟨by rfl,by rintro _ h;go_simp;try with_reducible rfl⟩) (by assumption) ?_;try simp only[Act.put,cT,dk,dr]
     refine wpAnyH_take (i:=3) (fM (fM (fM Au))) (by kernel_rfl) (by kernel_rfl) (by kernel_rfl) (fun _ _ _ h=>h) (oa ⟨by rfl,by rintro _ h;go_simp;try with_reducible rfl⟩) (by assumption) ?_;try simp only[Act.put,cT,dk,dr]
     refine wpAnyH_take (i:=5) (fM (fM (fM (fM (fM Au))))) (by kernel_rfl) (by kernel_rfl) (by kernel_rfl) (fun _ _ _ h=>h) (oa ⟨by rfl,by rintro _ h;go_simp;try with_reducible rfl⟩) (by assumption) ?_;try simp only[Act.put,cT,dk,dr]
     refine wpAnyH_take (i:=6) (fM (fM (fM (fM (fM (fM Au)))))) (by kernel_rfl) (by kernel_rfl) (by kernel_rfl) (fun _ _ _ h=>h) (oa ⟨by rfl,by rintro _ h;go_simp;try with_reducible rfl⟩) (by assumption) ?_;try simp only[Act.put,cT,dk,dr]
     refine wpAnyH_take (i:=7) (fM (fM (fM (fM (fM (fM (fM Au))))))) (by kernel_rfl) (by kernel_rfl) (by kernel_rfl) (fun _ _ _ h=>h) (oa ⟨by rfl,by rintro _ h;go_simp;try with_reducible rfl⟩) (by assumption) ?_;try simp only[Act.put,cT,dk,dr]
     refine wpAnyH_take (i:=8) (fM (fM (fM (fM (fM (fM (fM (fM Au)))))))) (by kernel_rfl) (by kernel_rfl) (by kernel_rfl) (fun _ _ _ h=>h) (oa ⟨by rfl,by rintro _ h;go_simp;try with_reducible rfl⟩) (by assumption) ?_;try simp only[Act.put,cT,dk,dr]
     refine wpAnyH_take (i:=9) (fM (fM (fM (fM (fM (fM (fM (fM (fM Au))))))))) (by kernel_rfl) (by kernel_rfl) (by kernel_rfl) (fun _ _ _ h=>h) (oa ⟨by rfl,by rintro _ h;go_simp;try with_reducible rfl⟩) (by assumption) ?_;try simp only[Act.put,cT,dk,dr]
     refine wpAnyH_take (i:=10) (fM (fM (fM (fM (fM (fM (fM (fM (fM (fM Au)))))))))) (by kernel_rfl) (by kernel_rfl) (by kernel_rfl) (fun _ _ _ h=>h) (oa ⟨by rfl,by rintro _ h;go_simp;try with_reducible rfl⟩) (by assumption) ?_;try simp only[Act.put,cT,dk,dr]
     refine wpAnyH_take (i:=11) (fM (fM (fM (fM (fM (fM (fM (fM (fM (fM (fM Au))))))))))) (by kernel_rfl) (by kernel_rfl) (by kernel_rfl) (fun _ _ _ h=>h) (oa ⟨by rfl,by rintro _ h;go_simp;try with_reducible rfl⟩) (by assumption) ?_;try simp only[Act.put,cT,dk,dr]
     refine wpAnyH_take (i:=12) (fM (fM (fM (fM (fM (fM (fM (fM (fM (fM (fM (fM Au)))))))))))) (by kernel_rfl) (by kernel_rfl) (by kernel_rfl) (fun _ _ _ h=>h) (oa ⟨by rfl,by rintro _ h;go_simp;try with_reducible rfl⟩) (by assumption) ?_;try simp only[Act.put,cT,dk,dr]
     refine wpAnyH_ready (rs:=[4,13]) (by kernel_rfl) (by simp) ?_;refine AllReadyH.cons rfl (fun K hK=>?_) ?_;go_simp;refine hK.out _ _ (by(try dsimp only);go_keep) (fun o=>?_);clear hK K v;have v:=o;clear o;try simp only[Act.put,cT,dk,dr]
     refine wpAnyH_ready (rs:=[13]) (by kernel_rfl) (by simp) ?_;refine AllReadyH.cons (fM (fM (fM (fM (fM (fM (fM (fM (fM (fM (fM (fM (fM Au))))))))))))) (fun K hK=>?_) AllReadyH.nil;go_simp;refine hK.out _ _ (by(try dsimp only);go_keep) (fun o=>?_);clear hK K v;have v:=o;clear o;try simp only[Act.put,cT,dk,dr]
     rotate_left 1
     refine AllReadyH.cons rfl (fun K hK=>?_) AllReadyH.nil;go_simp;refine hK.out _ _ (by(try dsimp only);go_keep) (fun o=>?_);clear hK K v;have v:=o;clear o;try simp only[Act.put,cT,dk,dr]
     refine wpAnyH_ready (rs:=[4]) (by kernel_rfl) (by simp) ?_;refine AllReadyH.cons (fM (fM (fM (fM Au)))) (fun K hK=>?_) AllReadyH.nil;go_simp;refine hK.out _ _ (by(try dsimp only);go_keep) (fun o=>?_);clear hK K v;have v:=o;clear o;try simp only[Act.put,cT,dk,dr]
     all_goals
      refine wpAnyH_ready (rs:=[14]) (by kernel_rfl) (by simp) ?_
      refine AllReadyH.cons (fM (fM (fM (fM (fM (fM (fM (fM (fM (fM (fM (fM (fM (fM Au)))))))))))))) (fun K hK=>?_) AllReadyH.nil
      (refine xx _ (by rfl) _ _ _ (by rfl) s 3 i3 (.int .i64 0) 1 8 underlying25 au.out.1 au.out.2.1 au.out.2.2.1 au.out.2.2.2 (by rfl) (by omega) p nl (N.map fun e=>Value.int .i64 e.id) (by rfl) (bl.out _ (by rfl)) ⟨aw.heap.size,0,none⟩ 4 4 [.int .i64 id,.int .i64 id,.int .i64 id,.int .i64 id] (by rfl) (by rfl) (World.news_of_block (cs:=#[.int .i64 id,.int .i64 id,.int .i64 id,.int .i64 id]) (by first|exact fD (by simp)|exact gC (fD (by simp)))) (by simp[Value.oneCell']) (by omega) (by unfold maxLen;omega) (by omega) (by simp;omega) ?_;intro va vc bE l I;have Y:((aw.setCell ⟨B,2,none⟩ (.slice ta (nl+4) tc)).alloc (.cells #[.int .i64 id,.int .i64 id,.int .i64 id,.int .i64 id] 3)).grownBy bE p.ownBlock:=⟨I.os,I.tape,I.output,I.size,I.block⟩;have aM:=cb (cd l Y);have af:=JB L.out am.out.2 Y;clear c2 c3 cf;have c3:=cn af 3;have cf:=dN af;simp at c3;have bF:=cA af;have bN:=Lt bi.out L.out am.out.2 aM.out.2 aa;clear l I Y af)
      refine hK.out _ _ (by(try dsimp only);go_keep) (fun o=>?_)
      clear hK K v
      have v:=o
      clear o
      try simp only[Act.put,cT,dk,dr]
      refine wpAnyH_take (i:=15) (fM (fM (fM (fM (fM (fM (fM (fM (fM (fM (fM (fM (fM (fM (fM Au))))))))))))))) (by kernel_rfl) (by kernel_rfl) (by kernel_rfl) (fun _ _ _ h=>h) (oa ⟨by rfl,by rintro _ h;go_simp;try with_reducible rfl⟩) (by assumption) ?_
      try simp only[Act.put,cT,dk,dr]
      refine wpAnyH_take (i:=16) (fM (fM (fM (fM (fM (fM (fM (fM (fM (fM (fM (fM (fM (fM (fM (fM Au)))))))))))))))) (by kernel_rfl) (by kernel_rfl) (by kernel_rfl) (fun _ _ _ h=>h) (oa ⟨by rfl,by rintro _ h;go_simp;try with_reducible rfl⟩) (by assumption) ?_
      try simp only[Act.put,cT,dk,dr]
      refine wpAnyH_ready (rs:=[17]) (by kernel_rfl) (by simp) ?_
      refine AllReadyH.cons (fM (fM (fM (fM (fM (fM (fM (fM (fM (fM (fM (fM (fM (fM (fM (fM (fM Au))))))))))))))))) (fun K hK=>?_) AllReadyH.nil
      go_simp
      refine hK.out _ _ (by(try dsimp only);go_keep) (fun o=>?_)
      clear hK K v
      have v:=o
      clear o
      try simp only[Act.put,cT,dk,dr]
      refine wpAnyH_done (by kernel_rfl) ?_ _
     all_goals go_wp2
     all_goals go_end0
     all_goals
      have bG:=am.out.1
      have bH:=aM.out.1
      have aG:=uO.fin L.out (by omega) A (fun b hb=>(HS.out.1.row.eC hb).imp (fun Z hZ=>hZ.1)) HS.out.2.2.2.2 (F:=F) aJ.out.1 aJ.out.2.1 aJ.out.2.2 (by rw[av.out];exact bG) am.out.2 (by rw[av.out];exact bH) aM.out.2
      have h1:=aG.1
      rw[HQ.out.1]at h1
      exact⟨rfl,M',_,_,_,_,_,h1,HQ.out.2.1,by rw[cI];rfl,HQ.out.2.2.2.2.trans (HS.out.2.2.2.1.trans aG.2)⟩
end Al
end Go.Proofs.YtlonjggfnleolaaGreatDoor
